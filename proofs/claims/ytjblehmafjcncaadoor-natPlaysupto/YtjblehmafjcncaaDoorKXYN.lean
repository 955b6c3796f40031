import Derived.Test.YtjblehmafjcncaaDoorKXA0
import Derived.Test.YtjblehmafjcncaaDoorKXM
import Derived.Test.YtjblehmafjcncaaDoorKXT
import Derived.Test.YtjblehmafjcncaaDoorKHB
import Derived.Test.YtjblehmafjcncaaDoorKXTZ
import Derived.Test.YtjblehmafjcncaaDoorKRC
import Derived.Test.YtjblehmafjcncaaDoorKNC
import Derived.Test.YtjblehmafjcncaaDoorKLN
import Derived.Test.YtjblehmafjcncaaDoorKW4
import Derived.Test.YtjblehmafjcncaaDoorKNSm
import Derived.Test.YtjblehmafjcncaaDoorKHB2
import Derived.Test.YtjblehmafjcncaaDoorKYAK
import Derived.Test.YtjblehmafjcncaaDoorKXQQ
import Derived.Test.YtjblehmafjcncaaDoorKXYP
import Derived.Test.YtjblehmafjcncaaDoorKXNM
import Derived.Test.YtjblehmafjcncaaDoorKXRMU
import Derived.Test.YtjblehmafjcncaaDoorKBW
import Derived.Test.YtjblehmafjcncaaDoorKXRO2
import Derived.Test.YtjblehmafjcncaaDoorKXYB
import Derived.Test.YtjblehmafjcncaaDoorKXS
import Derived.Test.YtjblehmafjcncaaDoorKLS
import Derived.Test.YtjblehmafjcncaaDoorKXA
import Derived.WalkKit
import Derived.ProofKit
import Derived.RowKit3
import Derived.WalkSpells
import Derived.StillTactics
import Derived.Deep.QuietTactic
import Derived.BigQuiet
import Derived.Below
import Derived.Deep.OwnRows
import Derived.OwnWalk
import Derived.Deep.RegionWith
import Derived.Deep.RegionHeld3
import Derived.Deep.DeepCutAuto
import Derived.Deep.CutRange
namespace Go.Proofs.YtjblehmafjcncaaDoor
open Go.RowKit
def cL : Code → Code
  | .seq a _ => a
  | c => c
def cR : Code → Code
  | .seq _ b => b
  | c => c
def cIn : Code → Code
  | .block _ b => b
  | .loop b => b
  | c => c
def dropC : Nat → Code → Code
  | 0, c => c
  | k + 1, .seq _ b => dropC k b
  | _ + 1, c => c
/-- the second loop's round -/
def roundC (b : Code) : Code := cIn (cL (cR (cIn (cIn (cR (cL (dropC 4 b)))))))
theorem Own.two {p q : Option Addr} {w : World} {base n c : Nat} {lp : Option Addr} {xs : List Int} (h : Own w base (.slice lp n c) xs) (hw : Wd xs) (hl : xs.length ≤ 1048576) (hp : ∀ g, p = some ⟨g, 0, none⟩ → g < base) (hq : ∀ g, q = some ⟨g, 0, none⟩ → g < base) : TwoL p q w ⟨lp, c, xs⟩ := by
  obtain ⟨lp', c', e, ha, hc⟩ := h.arr
  cases e
  refine ⟨hw, hl, hc, ?_⟩
  rcases ha with h1 | ⟨b, off, e, hcell⟩
  · exact Or.inl h1
  · have hb : base ≤ b := by
      rcases h.2 with ⟨h', _⟩ | ⟨g, cap, cur, h1, h2, _⟩
      · rw [e] at h'; cases h'
      · rw [e] at h1; cases h1; exact h2
    refine Or.inr ⟨b, off, e, ?_, ?_, hcell⟩
    · intro e2; have := hp b e2; omega
    · intro e2; have := hq b e2; omega
set_option maxRecDepth 100000 in
set_option maxHeartbeats 10000000 in
theorem plC (w wc : World) (Q : Exit → Act → World → Prop) (k a gm gd gp gw base cp cq : Nat) (ls ms : List Lst) (R : Rs) (p1 p2 q1 q2 : Option Addr) (c1 c2 d1 d2 : Nat) (HS : Hid (PSt w wc (some ⟨gm, 0, none⟩) 8 cp ls (some ⟨gd, 0, none⟩) 8 cq ms ∧ ls.map Lst.xs = ms.map Lst.xs)) (ha : a < 8) (hgm : gm < base) (hgd : gd < base) (hgp : base ≤ gp) (hgw : base ≤ gw) (C1 : Cs wc gp R p1 c1 p2 c2) (C2 : Cs wc gw R q1 d1 q2 d2) (HO : Hid (Out wc base R p1 c1 p2 c2 ∧ Out wc base R q1 d1 q2 d2 ∧ Fine R)) (u0 u1 u2 u3 u4 u7 u8 u9 u12 u13 u16 u17 u18 u19 u20 u21 u22 u23 u24 u25 u26 u27 u28 u29 u30 u31 u32 u33 u34 u35 u36 u37 u38 u39 u40 u41 u42 u43 u44 u45 u46 u47 u48 u49 u50 u51 u52 u53 u54 u55 u56 u57 u58 u59 u60 u61 u62 u63 u64 u65 u66 u67 u68 u69 u70 u71 u72 u73 u74 u75 u76 u77 u78 u79 u80 u81 u82 u83 u84 u85 u86 u87 u88 u89 u90 u91 u92 u93 u94 u95 u96 u97 u98 u99 u100 u101 u102 u103 u104 u105 u106 u107 u108 u109 u110 u111 u112 u113 u114 u115 u116 u117 u118 u119 u120 u121 u122 u123 u124 u125 u126 u127 u128 u129 u130 u131 u132 u133 u134 u135 u136 u137 u138 u139 u140 u141 u142 u143 u144 u145 u146 u147 u148 u149 u150 u151 u152 u153 u154 u155 u156 u157 u158 u159 u160 u161 u162 u163 u164 u165 u166 u167 u168 u169 u170 u171 u172 u173 u174 u175 u176 u177 u178 u179 u180 u181 u182 u183 u184 u185 u186 u187 u188 u189 u190 u191 u192 u193 u194 u195 u196 u197 u198 u199 u200 u201 u202 u203 u204 u205 u206 u207 u208 u209 u210 : Value) (hQ : ∀ (v4 v10 v11 v12 v13 v14 v15 v16 v74 v75 v76 v77 v78 v79 v80 v81 v82 v83 v84 v85 v86 v87 v88 v89 v90 v91 v92 v93 v94 v95 v96 v97 v98 v99 v100 v101 v102 v103 v104 v105 v106 v107 v108 v109 v110 v111 v112 v113 v114 v115 v116 v117 v118 v119 v120 v121 v122 v123 v124 v125 v126 v127 v128 v129 v130 v131 v132 v133 v134 v135 v136 v137 v138 v139 v140 v141 v142 v143 v144 v145 v146 v147 v148 v149 v150 v151 v152 v153 v154 v155 v156 v157 v158 v159 v160 v161 v162 v163 v164 v165 v166 v167 v168 v169 v170 v171 v172 v173 v174 v175 v176 v177 v178 v179 v180 v181 v182 v183 v184 v185 v186 v187 v188 v189 v190 v191 v192 v193 v194 v195 v196 v197 v198 v199 v200 v201 v202 v203 v204 v205 v206 v207 v208 v209 : Value) (w' : World) (ls' ms' : List Lst), PSt w w' (some ⟨gm, 0, none⟩) 8 cp ls' (some ⟨gd, 0, none⟩) 8 cq ms' → ls'.map Lst.xs = ms'.map Lst.xs → Q .normal ⟨#[u0, u1, u2, u3, v4, .slice (some ⟨gm, 0, none⟩) 8 cp, .slice (some ⟨gd, 0, none⟩) 8 cq, u7, u8, u9, v10, v11, v12, v13, v14, v15, v16, u17, u18, u19, u20, u21, u22, u23, u24, u25, u26, u27, u28, u29, u30, u31, u32, u33, u34, u35, u36, u37, u38, u39, u40, u41, u42, u43, u44, u45, u46, u47, u48, u49, u50, u51, u52, u53, u54, u55, u56, u57, u58, u59, u60, u61, u62, u63, u64, u65, u66, u67, u68, u69, u70, u71, u72, u73, v74, v75, v76, v77, v78, v79, v80, v81, v82, v83, v84, v85, v86, v87, v88, v89, v90, v91, v92, v93, v94, v95, v96, v97, v98, v99, v100, v101, v102, v103, v104, v105, v106, v107, v108, v109, v110, v111, v112, v113, v114, v115, v116, v117, v118, v119, v120, v121, v122, v123, v124, v125, v126, v127, v128, v129, v130, v131, v132, v133, v134, v135, v136, v137, v138, v139, v140, v141, v142, v143, v144, v145, v146, v147, v148, v149, v150, v151, v152, v153, v154, v155, v156, v157, v158, v159, v160, v161, v162, v163, v164, v165, v166, v167, v168, v169, v170, v171, v172, v173, v174, v175, v176, v177, v178, v179, v180, v181, v182, v183, v184, v185, v186, v187, v188, v189, v190, v191, v192, v193, v194, v195, v196, v197, v198, v199, v200, v201, v202, v203, v204, v205, v206, v207, v208, v209, u210], []⟩ w') :
    Code.wp Tryd.prog (dropC 9 (roundC (Tryd.f3.body.getD .skip))) Q ⟨#[u0, u1, u2, u3, u4, .slice (some ⟨gm, 0, none⟩) 8 cp, .slice (some ⟨gd, 0, none⟩) 8 cq, u7, u8, u9, .int .i64 (k : Int), .int .i64 (a : Int), u12, u13, .pointer (some ⟨gp, 0, none⟩), .pointer (some ⟨gw, 0, none⟩), u16, u17, u18, u19, u20, u21, u22, u23, u24, u25, u26, u27, u28, u29, u30, u31, u32, u33, u34, u35, u36, u37, u38, u39, u40, u41, u42, u43, u44, u45, u46, u47, u48, u49, u50, u51, u52, u53, u54, u55, u56, u57, u58, u59, u60, u61, u62, u63, u64, u65, u66, u67, u68, u69, u70, u71, u72, u73, u74, u75, u76, u77, u78, u79, u80, u81, u82, u83, u84, u85, u86, u87, u88, u89, u90, u91, u92, u93, u94, u95, u96, u97, u98, u99, u100, u101, u102, u103, u104, u105, u106, u107, u108, u109, u110, u111, u112, u113, u114, u115, u116, u117, u118, u119, u120, u121, u122, u123, u124, u125, u126, u127, u128, u129, u130, u131, u132, u133, u134, u135, u136, u137, u138, u139, u140, u141, u142, u143, u144, u145, u146, u147, u148, u149, u150, u151, u152, u153, u154, u155, u156, u157, u158, u159, u160, u161, u162, u163, u164, u165, u166, u167, u168, u169, u170, u171, u172, u173, u174, u175, u176, u177, u178, u179, u180, u181, u182, u183, u184, u185, u186, u187, u188, u189, u190, u191, u192, u193, u194, u195, u196, u197, u198, u199, u200, u201, u202, u203, u204, u205, u206, u207, u208, u209, u210], []⟩ wc := by
  conv => arg 2; whnf
  have hal := alike_ p1 q1 p2 q2 c1 d1 c2 d2 R.l1 R.l2 R.W R.Z R.E R.B wc HO.out.1.o1.arr' HO.out.2.1.o1.arr' HO.out.1.o2.arr' HO.out.2.1.o2.arr' (by have := HO.out.2.2.2.2.1; omega) (by have := HO.out.2.2.2.2.2; omega)
  obtain ⟨L1, hL1⟩ : ∃ L1, L1 = R.l1.length := ⟨_, rfl⟩
  obtain ⟨L2, hL2⟩ : ∃ L2, L2 = R.l2.length := ⟨_, rfl⟩
  obtain ⟨x0, x1, x2, x3, x4, x5⟩ := C1
  obtain ⟨y0, y1, y2, y3, y4, y5⟩ := C2
  rw [← hL1, ← hL2] at hal
  rw [← hL1] at x0 y0
  rw [← hL2] at x1 y1
  have HL : Hid (L1 = R.l1.length ∧ L2 = R.l2.length) := ⟨hL1, hL2⟩
  clear hL1 hL2
  go_wp2_with fail
  refine hal.mono ?_; rintro e w1 ⟨rfl, k1⟩
  replace x0 := kkeep k1 x0
  replace x1 := kkeep k1 x1
  replace y0 := kkeep k1 y0
  replace y1 := kkeep k1 y1
  replace y5 := kkeep k1 y5
  replace HS : Hid (PSt w w1 (some ⟨gm, 0, none⟩) 8 cp ls (some ⟨gd, 0, none⟩) 8 cq ms ∧ ls.map Lst.xs = ms.map Lst.xs) := ⟨HS.out.1.grown k1, HS.out.2⟩
  replace HO : Hid (Out w1 base R p1 c1 p2 c2 ∧ Out w1 base R q1 d1 q2 d2 ∧ Fine R) := ⟨HO.out.1.grown k1, HO.out.2.1.grown k1, HO.out.2.2⟩
  have HQ9 := hQ
  clear hal k1 x2 x3 x4 x5 y2 y3 y4 hQ
  go_upto_region 28 with fail
  go_cut [169] from 151 to 169 (fun s169 wx => ∃ bb : Bool, s169 = .bool bb ∧ wx = w1)
  case first =>
    clear HS HO HQ9 HL
    by_cases dE : R.E = 0
    · have tE1 : (R.E == 0) = true := by simp [dE]
      have tE2 : decide (R.E = 0) = true := by simp [dE]
      clear dE
      by_cases d2 : k = 2
      · subst d2
        go_wp2_with fail
        go_meet
        exact ⟨false, rfl, rfl⟩
      · have t21 : (((k : Int) : Int) == 2) = false := by simp; omega
        have t22 : (((k : Int) : Int) != 2) = true := by simp; omega
        have t23 : decide (((k : Int) : Int) = 2) = false := by simp; omega
        clear d2
        by_cases d3 : k = 3
        · subst d3
          go_wp2_with fail
          go_meet
          exact ⟨false, rfl, rfl⟩
        · have t31 : (((k : Int) : Int) == 3) = false := by simp; omega
          have t32 : (((k : Int) : Int) != 3) = true := by simp; omega
          have t33 : decide (((k : Int) : Int) = 3) = false := by simp; omega
          clear d3
          by_cases d4 : k = 4
          · subst d4
            go_wp2_with fail
            go_meet
            exact ⟨false, rfl, rfl⟩
          · have t41 : (((k : Int) : Int) == 4) = false := by simp; omega
            have t42 : (((k : Int) : Int) != 4) = true := by simp; omega
            have t43 : decide (((k : Int) : Int) = 4) = false := by simp; omega
            clear d4
            by_cases d5 : k = 5
            · subst d5
              go_wp2_with fail
              go_meet
              exact ⟨false, rfl, rfl⟩
            · have t51 : (((k : Int) : Int) == 5) = false := by simp; omega
              have t52 : (((k : Int) : Int) != 5) = true := by simp; omega
              have t53 : decide (((k : Int) : Int) = 5) = false := by simp; omega
              clear d5
              go_wp2_with fail
              go_meet
              exact ⟨true, rfl, rfl⟩
    · have tE1 : (R.E == 0) = false := by simp [dE]
      have tE2 : decide (R.E = 0) = false := by simp [dE]
      clear dE
      go_wp2_with fail
      go_meet
      exact ⟨false, rfl, rfl⟩
  case rest =>
  obtain ⟨bb, rfl, hwc⟩ := hcut
  obtain rfl := hwc.symm
  clear hwc y5
  go_upto_if 169 with fail
  go_cut [] from 170 to 195 (fun wx => ∃ ls' ms' : List Lst, PSt w wx (some ⟨gm, 0, none⟩) 8 cp ls' (some ⟨gd, 0, none⟩) 8 cq ms' ∧ ls'.map Lst.xs = ms'.map Lst.xs)
  case first =>
    clear HQ9
    cases bb
    · go_wp2_with fail
      go_meet
      exact ⟨ls, ms, HS.out.1, HS.out.2⟩
    · obtain ⟨o1, o2, fn⟩ := HO.out
      obtain ⟨hst, hxs⟩ := HS.out
      obtain ⟨g9, l9, h9, -, em, -, fm, -⟩ := hst.at1 ha
      cases h9
      have hp9 : ∀ g, (some ⟨gm, 0, none⟩ : Option Addr) = some ⟨g, 0, none⟩ → g < base := fun g e => by cases e; exact hgm
      have hq9 : ∀ g, (some ⟨gd, 0, none⟩ : Option Addr) = some ⟨g, 0, none⟩ → g < base := fun g e => by cases e; exact hgd
      have ta : TwoL (some ⟨gm, 0, none⟩) (some ⟨gd, 0, none⟩) w1 ⟨p1, c1, R.l1⟩ := o1.o1.two fn.1 fn.2.2.1 hp9 hq9
      have tb : TwoL (some ⟨gm, 0, none⟩) (some ⟨gd, 0, none⟩) w1 ⟨q1, d1, R.l1⟩ := o2.o1.two fn.1 fn.2.2.1 hp9 hq9
      have tc : TwoL (some ⟨gm, 0, none⟩) (some ⟨gd, 0, none⟩) w1 ⟨p2, c2, R.l2⟩ := o1.o2.two fn.2.1 fn.2.2.2 hp9 hq9
      have td : TwoL (some ⟨gm, 0, none⟩) (some ⟨gd, 0, none⟩) w1 ⟨q2, d2, R.l2⟩ := o2.o2.two fn.2.1 fn.2.2.2 hp9 hq9
      have vv1 : Lst.v ⟨p1, c1, R.l1⟩ = .slice p1 L1 c1 := by unfold Lst.v; simp only; rw [← HL.out.1]
      have vv2 : Lst.v ⟨q1, d1, R.l1⟩ = .slice q1 L1 d1 := by unfold Lst.v; simp only; rw [← HL.out.1]
      have vv3 : Lst.v ⟨p2, c2, R.l2⟩ = .slice p2 L2 c2 := by unfold Lst.v; simp only; rw [← HL.out.2]
      have vv4 : Lst.v ⟨q2, d2, R.l2⟩ = .slice q2 L2 d2 := by unfold Lst.v; simp only; rw [← HL.out.2]
      -- mine[a] = p.L
      obtain ⟨w2, hw2⟩ : ∃ w2, w2 = w1.setCell ⟨gm, a, none⟩ (.slice p1 L1 c1) := ⟨_, rfl⟩
      have s2 : PSt w w2 (some ⟨gm, 0, none⟩) 8 cp (ls.set a ⟨p1, c1, R.l1⟩) (some ⟨gd, 0, none⟩) 8 cq ms := by rw [hw2, ← vv1]; exact hst.set1 ta rfl
      have kb2 : Kb gm w1 w2 := by rw [hw2]; exact (Kb.refl gm w1).setCell a _
      have x1' := kb2.arr (show gp ≠ gm by omega) x1
      have y0' := kb2.arr (show gw ≠ gm by omega) y0
      have y1' := kb2.arr (show gw ≠ gm by omega) y1
      have tb2 := tb.kb (Or.inl rfl) kb2
      have tc2 := tc.kb (Or.inl rfl) kb2
      have td2 := td.kb (Or.inl rfl) kb2
      obtain ⟨g9, l9', h9, -, ed, -, fd, -⟩ := s2.swap.at1 ha
      cases h9
      -- docs[a] = w.L
      obtain ⟨w3, hw3⟩ : ∃ w3, w3 = w2.setCell ⟨gd, a, none⟩ (.slice q1 L1 d1) := ⟨_, rfl⟩
      have s3 : PSt w w3 (some ⟨gd, 0, none⟩) 8 cq (ms.set a ⟨q1, d1, R.l1⟩) (some ⟨gm, 0, none⟩) 8 cp (ls.set a ⟨p1, c1, R.l1⟩) := by rw [hw3, ← vv2]; exact s2.swap.set1 tb2.swap rfl
      have kb3 : Kb gd w2 w3 := by rw [hw3]; exact (Kb.refl gd w2).setCell a _
      have x1'' := kb3.arr (show gp ≠ gd by omega) x1'
      have y1'' := kb3.arr (show gw ≠ gd by omega) y1'
      have tc3 := tc2.kb (Or.inr rfl) kb3
      have td3 := td2.kb (Or.inr rfl) kb3
      have hx3 : (ls.set a ⟨p1, c1, R.l1⟩).map Lst.xs = (ms.set a ⟨q1, d1, R.l1⟩).map Lst.xs := by rw [List.map_set, List.map_set, hxs]
      have ia : (a : Int) < 8 := by omega
      by_cases c9 : k = 9
      · subst c9
        obtain ⟨a', ha'⟩ : ∃ a', a' = (a + 1) % 8 := ⟨_, rfl⟩
        have hlt' : a' < 8 := by omega
        have f1 : ((a : Int) + 1).tmod 8 = (a' : Int) := by rw [Int.tmod_eq_emod_of_nonneg (by omega)]; omega
        have f2 : ((a : Int) + 1) % 8 = (a' : Int) := by omega
        obtain ⟨g9, l9m, h9, -, em', -, fm', -⟩ := s3.swap.at1 hlt'
        cases h9
        obtain ⟨w4, hw4⟩ : ∃ w4, w4 = w3.setCell ⟨gm, a', none⟩ (.slice p2 L2 c2) := ⟨_, rfl⟩
        have s4 : PSt w w4 (some ⟨gm, 0, none⟩) 8 cp ((ls.set a ⟨p1, c1, R.l1⟩).set a' ⟨p2, c2, R.l2⟩) (some ⟨gd, 0, none⟩) 8 cq (ms.set a ⟨q1, d1, R.l1⟩) := by rw [hw4, ← vv3]; exact s3.swap.set1 tc3 rfl
        have kb4 : Kb gm w3 w4 := by rw [hw4]; exact (Kb.refl gm w3).setCell a' _
        have y1q := kb4.arr (show gw ≠ gm by omega) y1''
        have td4 := td3.kb (Or.inl rfl) kb4
        obtain ⟨g9, l9d, h9, -, ed', -, fd', -⟩ := s4.swap.at1 hlt'
        cases h9
        obtain ⟨w5, hw5⟩ : ∃ w5, w5 = w4.setCell ⟨gd, a', none⟩ (.slice q2 L2 d2) := ⟨_, rfl⟩
        have s5 : PSt w w5 (some ⟨gd, 0, none⟩) 8 cq ((ms.set a ⟨q1, d1, R.l1⟩).set a' ⟨q2, d2, R.l2⟩) (some ⟨gm, 0, none⟩) 8 cp ((ls.set a ⟨p1, c1, R.l1⟩).set a' ⟨p2, c2, R.l2⟩) := by rw [hw5, ← vv4]; exact s4.swap.set1 td4.swap rfl
        have hx5 : ((ls.set a ⟨p1, c1, R.l1⟩).set a' ⟨p2, c2, R.l2⟩).map Lst.xs = ((ms.set a ⟨q1, d1, R.l1⟩).set a' ⟨q2, d2, R.l2⟩).map Lst.xs := by rw [List.map_set, List.map_set, List.map_set, List.map_set, hxs]
        have HZ : Hid (PSt w w5 (some ⟨gm, 0, none⟩) 8 cp ((ls.set a ⟨p1, c1, R.l1⟩).set a' ⟨p2, c2, R.l2⟩) (some ⟨gd, 0, none⟩) 8 cq ((ms.set a ⟨q1, d1, R.l1⟩).set a' ⟨q2, d2, R.l2⟩) ∧ ((ls.set a ⟨p1, c1, R.l1⟩).set a' ⟨p2, c2, R.l2⟩).map Lst.xs = ((ms.set a ⟨q1, d1, R.l1⟩).set a' ⟨q2, d2, R.l2⟩).map Lst.xs) := ⟨s5.swap, hx5⟩
        have HW : Hid (w2 = w1.setCell ⟨gm, a, none⟩ (.slice p1 L1 c1) ∧ w3 = w2.setCell ⟨gd, a, none⟩ (.slice q1 L1 d1) ∧ w4 = w3.setCell ⟨gm, a', none⟩ (.slice p2 L2 c2) ∧ w5 = w4.setCell ⟨gd, a', none⟩ (.slice q2 L2 d2)) := ⟨hw2, hw3, hw4, hw5⟩
        clear hst hxs s2 s3 s4 s5 hx3 hx5 ta tb tc td tb2 tc2 td2 tc3 td3 td4 kb2 kb3 kb4 o1 o2 fn HO HS HL vv1 vv2 vv3 vv4 hp9 hq9 hw2 hw3 hw4 hw5 ha' ha hgm hgd hgp hgw x1 y0 y1 x1' y1' y1'' 
        go_upto_region 30 with fail
        rw [← HW.out.1]
        clear x0 em fm
        go_upto_region 31 with fail
        rw [← HW.out.2.1]
        clear y0' ed fd
        go_upto_region 33 with fail
        rw [← HW.out.2.2.1]
        clear x1'' em' fm'
        go_wp2_with fail
        rw [← HW.out.2.2.2]
        go_meet
        exact ⟨_, _, HZ.out.1, HZ.out.2⟩
      · have e9 : ((k : Int) == 9) = false := by simp; omega
        have e9' : decide ((k : Int) = 9) = false := by simp; omega
        have HZ : Hid (PSt w w3 (some ⟨gm, 0, none⟩) 8 cp (ls.set a ⟨p1, c1, R.l1⟩) (some ⟨gd, 0, none⟩) 8 cq (ms.set a ⟨q1, d1, R.l1⟩) ∧ (ls.set a ⟨p1, c1, R.l1⟩).map Lst.xs = (ms.set a ⟨q1, d1, R.l1⟩).map Lst.xs) := ⟨s3.swap, hx3⟩
        have HW : Hid (w2 = w1.setCell ⟨gm, a, none⟩ (.slice p1 L1 c1) ∧ w3 = w2.setCell ⟨gd, a, none⟩ (.slice q1 L1 d1)) := ⟨hw2, hw3⟩
        clear hst hxs s2 s3 hx3 ta tb tc td tb2 tc2 td2 tc3 td3 kb2 kb3 o1 o2 fn HO HS HL vv1 vv2 vv3 vv4 hp9 hq9 hw2 hw3 ha hgm hgd hgp hgw x1 y0 y1 x1' y1' y1'' x1''
        go_upto_region 30 with fail
        rw [← HW.out.1]
        clear x0 em fm
        go_upto_region 31 with fail
        rw [← HW.out.2]
        clear y0' ed fd
        go_wp2_with fail
        go_meet
        exact ⟨_, _, HZ.out.1, HZ.out.2⟩
  case rest =>
  obtain ⟨ls', ms', hst, hxs⟩ := hcut
  clear HS HO HL x0 x1 y0 y1 hgp hgw ha hgm hgd
  have HS : Hid (PSt w wc (some ⟨gm, 0, none⟩) 8 cp ls' (some ⟨gd, 0, none⟩) 8 cq ms' ∧ ls'.map Lst.xs = ms'.map Lst.xs) := ⟨hst, hxs⟩
  clear hst hxs
  go_wp2
  go_loopw [16] (fun s16 wr => ∃ j : Nat, s16 = .int .i64 (j : Int) ∧ j ≤ 8 ∧ Kp wc wr) (fun j _ => 8 - (intOf j).toNat)
  case atStart => exact ⟨0, rfl, by omega, Kp.refl _⟩
  case round =>
    obtain ⟨j, rfl, hj, hkp⟩ := hrel
    by_cases cj : j < 8
    · have ij : (j : Int) < 8 := by omega
      obtain ⟨hst, hxs⟩ := HS.out
      replace hst := hst.grown hkp
      obtain ⟨g9, la, h9, hla, em, tm, -, -⟩ := hst.at1 cj
      cases h9
      obtain ⟨g9, da, h9, hda, ed, td, -, -⟩ := hst.swap.at1 cj
      cases h9
      have hxa : la.xs = da.xs := by
        have h1 : (ls'.map Lst.xs)[j]? = some la.xs := by rw [List.getElem?_map, hla]; rfl
        have h2 : (ms'.map Lst.xs)[j]? = some da.xs := by rw [List.getElem?_map, hda]; rfl
        rw [hxs, h2] at h1; exact (Option.some.inj h1).symm
      unfold Lst.v at em ed
      have hs : ∀ w9, Kp wr w9 → Calls Tryd.prog 10 #[.slice la.p la.xs.length la.c, .slice da.p da.xs.length da.c] w9 fun e w' => e = .returned (.bool true) ∧ Kp w9 w' := fun w9 k9 => by
        have h := same_ la.p da.p la.c da.c la.xs da.xs w9 (tm.arr.grown k9) (td.arr.grown k9) (by have := tm.2.1; omega)
        rw [decide_eq_true hxa] at h
        exact h
      obtain ⟨La, hLa⟩ : ∃ La, La = la.xs.length := ⟨_, rfl⟩
      obtain ⟨Ld, hLd⟩ : ∃ Ld, Ld = da.xs.length := ⟨_, rfl⟩
      rw [← hLa, ← hLd] at hs
      rw [← hLa] at em
      rw [← hLd] at ed
      clear hst hxs hla hda tm td hxa hLa hLd HQ9
      go_wp2
      refine wp_region_kp (by kernel_rfl) (by kernel_rfl) (fun ι _ G hG hall => ?_)
      have f0 : ∀ n, (G n).cell? ⟨gm, j, none⟩ = some (.slice la.p La la.c) := fun n => kkeep (hG n) em
      have f1 : ∀ n, (G n).cell? ⟨gd, j, none⟩ = some (.slice da.p Ld da.c) := fun n => kkeep (hG n) ed
      repeat (go_big_quiet_step (exact (hs _ (hG _)).mono (fun e w' h => ⟨h.1, hall _ ((hG _).trans h.2)⟩)))
      refine wpQuiet_nil ?_
      rintro _ ⟨nq, rfl⟩
      have gq := hG nq
      clear f0 f1 hall hG hs em ed
      go_wp2
      exact ⟨⟨j + 1, by go_num, by omega, hkp.trans gq⟩, by simp [intOf]; omega⟩
    · have ij : ¬ ((j : Int) < 8) := by omega
      go_wp2
      exact HQ9 _ _ _ _ _ _ _ _ _ _ _ _ _ _ _ _ _ _ _ _ _ _ _ _ _ _ _ _ _ _ _ _ _ _ _ _ _ _ _ _ _ _ _ _ _ _ _ _ _ _ _ _ _ _ _ _ _ _ _ _ _ _ _ _ _ _ _ _ _ _ _ _ _ _ _ _ _ _ _ _ _ _ _ _ _ _ _ _ _ _ _ _ _ _ _ _ _ _ _ _ _ _ _ _ _ _ _ _ _ _ _ _ _ _ _ _ _ _ _ _ _ _ _ _ _ _ _ _ _ _ _ _ _ _ _ _ _ _ _ _ _ _ _ _ _ ls' ms' (HS.out.1.grown hkp) HS.out.2
/-- a struct's block as it is born -/
structure Six (w : World) (B : Nat) : Prop where
  z0 : w.cell? ⟨B, 0, none⟩ = some (.slice none 0 0)
  z1 : w.cell? ⟨B, 1, none⟩ = some (.slice none 0 0)
  z2 : w.cell? ⟨B, 2, none⟩ = some (.int .u64 0)
  z3 : w.cell? ⟨B, 3, none⟩ = some (.int .i64 0)
  z4 : w.cell? ⟨B, 4, none⟩ = some (.bool false)
  z5 : w.cell? ⟨B, 5, none⟩ = some (.int .i64 0)
  f0 : w.frozen? ⟨B, 0, none⟩ = false
  f1 : w.frozen? ⟨B, 1, none⟩ = false
  f2 : w.frozen? ⟨B, 2, none⟩ = false
  f3 : w.frozen? ⟨B, 3, none⟩ = false
  f4 : w.frozen? ⟨B, 4, none⟩ = false
  f5 : w.frozen? ⟨B, 5, none⟩ = false
theorem kfro {W w : World} {b o : Nat} (g : Kp W w) (h : b < W.heap.size) : w.frozen? ⟨b, o, none⟩ = W.frozen? ⟨b, o, none⟩ := World.frozen?_of_block (w := W) (Below.block g b h)
theorem Six.grown {w w' : World} {B : Nat} (h : Six w B) (k : Kp w w') : Six w' B := by
  have hlt := cell_lt h.z0
  exact ⟨kkeep k h.z0, kkeep k h.z1, kkeep k h.z2, kkeep k h.z3, kkeep k h.z4, kkeep k h.z5, (kfro k hlt).trans h.f0, (kfro k hlt).trans h.f1, (kfro k hlt).trans h.f2, (kfro k hlt).trans h.f3, (kfro k hlt).trans h.f4, (kfro k hlt).trans h.f5⟩
theorem Six.born (w : World) : Six (w.alloc (.cells #[.slice none 0 0, .slice none 0 0, .int .u64 0, .int .i64 0, .bool false, .int .i64 0] 32)) w.heap.size := by
  constructor <;> simp [go_sem]
/-- a struct's block behind its six stores -/
theorem six_cs (w : World) (B : Nat) (R : Rs) (p1 p2 : Option Addr) (c1 c2 S1 S2 : Nat) (h : Six w B) (h1 : S1 = R.l1.length) (h2 : S2 = R.l2.length) (w' : World) (hw : w' = (((((w.setCell ⟨B, 0, none⟩ (.slice p1 S1 c1)).setCell ⟨B, 1, none⟩ (.slice p2 S2 c2)).setCell ⟨B, 2, none⟩ (.int .u64 R.W)).setCell ⟨B, 3, none⟩ (.int .i64 R.Z)).setCell ⟨B, 4, none⟩ (.bool R.B)).setCell ⟨B, 5, none⟩ (.int .i64 R.E)) : Cs w' B R p1 c1 p2 c2 ∧ Kb B w w' := by
  subst h1 h2 hw
  refine ⟨?_, ((((((Kb.refl B w).setCell 0 _).setCell 1 _).setCell 2 _).setCell 3 _).setCell 4 _).setCell 5 _⟩
  obtain ⟨z0, z1, z2, z3, z4, z5, _, _, _, _, _, _⟩ := h
  constructor <;> simp [go_sem, z0, z1, z2, z3, z4, z5]
set_option maxRecDepth 100000 in
set_option maxHeartbeats 10000000 in
theorem plB (w wb : World) (Q : Exit → Act → World → Prop) (k a b gm gd cp cq : Nat) (n : Int) (ls ms : List Lst) (HS : Hid (PSt w wb (some ⟨gm, 0, none⟩) 8 cp ls (some ⟨gd, 0, none⟩) 8 cq ms ∧ ls.map Lst.xs = ms.map Lst.xs)) (hT : Tab wb) (ha : a < 8) (hb : b < 8) (hk : k ≤ 13) (hn : n < 9223372036854775808) (u0 u1 u2 u3 u4 u7 u8 u9 u14 u15 u16 u17 u18 u19 u20 u21 u22 u23 u24 u25 u26 u27 u28 u29 u30 u31 u32 u33 u34 u35 u36 u37 u38 u39 u40 u41 u42 u43 u44 u45 u46 u47 u48 u49 u50 u51 u52 u53 u54 u55 u56 u57 u58 u59 u60 u61 u62 u63 u64 u65 u66 u67 u68 u69 u70 u71 u72 u73 u74 u75 u76 u77 u78 u79 u80 u81 u82 u83 u84 u85 u86 u87 u88 u89 u90 u91 u92 u93 u94 u95 u96 u97 u98 u99 u100 u101 u102 u103 u104 u105 u106 u107 u108 u109 u110 u111 u112 u113 u114 u115 u116 u117 u118 u119 u120 u121 u122 u123 u124 u125 u126 u127 u128 u129 u130 u131 u132 u133 u134 u135 u136 u137 u138 u139 u140 u141 u142 u143 u144 u145 u146 u147 u148 u149 u150 u151 u152 u153 u154 u155 u156 u157 u158 u159 u160 u161 u162 u163 u164 u165 u166 u167 u168 u169 u170 u171 u172 u173 u174 u175 u176 u177 u178 u179 u180 u181 u182 u183 u184 u185 u186 u187 u188 u189 u190 u191 u192 u193 u194 u195 u196 u197 u198 u199 u200 u201 u202 u203 u204 u205 u206 u207 u208 u209 u210 : Value) (hQ : ∀ (v4 v10 v11 v12 v13 v14 v15 v16 v74 v75 v76 v77 v78 v79 v80 v81 v82 v83 v84 v85 v86 v87 v88 v89 v90 v91 v92 v93 v94 v95 v96 v97 v98 v99 v100 v101 v102 v103 v104 v105 v106 v107 v108 v109 v110 v111 v112 v113 v114 v115 v116 v117 v118 v119 v120 v121 v122 v123 v124 v125 v126 v127 v128 v129 v130 v131 v132 v133 v134 v135 v136 v137 v138 v139 v140 v141 v142 v143 v144 v145 v146 v147 v148 v149 v150 v151 v152 v153 v154 v155 v156 v157 v158 v159 v160 v161 v162 v163 v164 v165 v166 v167 v168 v169 v170 v171 v172 v173 v174 v175 v176 v177 v178 v179 v180 v181 v182 v183 v184 v185 v186 v187 v188 v189 v190 v191 v192 v193 v194 v195 v196 v197 v198 v199 v200 v201 v202 v203 v204 v205 v206 v207 v208 v209 : Value) (w' : World) (ls' ms' : List Lst), PSt w w' (some ⟨gm, 0, none⟩) 8 cp ls' (some ⟨gd, 0, none⟩) 8 cq ms' → ls'.map Lst.xs = ms'.map Lst.xs → Q .normal ⟨#[u0, u1, u2, u3, v4, .slice (some ⟨gm, 0, none⟩) 8 cp, .slice (some ⟨gd, 0, none⟩) 8 cq, u7, u8, u9, v10, v11, v12, v13, v14, v15, v16, u17, u18, u19, u20, u21, u22, u23, u24, u25, u26, u27, u28, u29, u30, u31, u32, u33, u34, u35, u36, u37, u38, u39, u40, u41, u42, u43, u44, u45, u46, u47, u48, u49, u50, u51, u52, u53, u54, u55, u56, u57, u58, u59, u60, u61, u62, u63, u64, u65, u66, u67, u68, u69, u70, u71, u72, u73, v74, v75, v76, v77, v78, v79, v80, v81, v82, v83, v84, v85, v86, v87, v88, v89, v90, v91, v92, v93, v94, v95, v96, v97, v98, v99, v100, v101, v102, v103, v104, v105, v106, v107, v108, v109, v110, v111, v112, v113, v114, v115, v116, v117, v118, v119, v120, v121, v122, v123, v124, v125, v126, v127, v128, v129, v130, v131, v132, v133, v134, v135, v136, v137, v138, v139, v140, v141, v142, v143, v144, v145, v146, v147, v148, v149, v150, v151, v152, v153, v154, v155, v156, v157, v158, v159, v160, v161, v162, v163, v164, v165, v166, v167, v168, v169, v170, v171, v172, v173, v174, v175, v176, v177, v178, v179, v180, v181, v182, v183, v184, v185, v186, v187, v188, v189, v190, v191, v192, v193, v194, v195, v196, v197, v198, v199, v200, v201, v202, v203, v204, v205, v206, v207, v208, v209, u210], []⟩ w') :
    Code.wp Tryd.prog (dropC 7 (roundC (Tryd.f3.body.getD .skip))) Q ⟨#[u0, u1, u2, u3, u4, .slice (some ⟨gm, 0, none⟩) 8 cp, .slice (some ⟨gd, 0, none⟩) 8 cq, u7, u8, u9, .int .i64 (k : Int), .int .i64 (a : Int), .int .i64 (b : Int), .int .i64 n, u14, u15, u16, u17, u18, u19, u20, u21, u22, u23, u24, u25, u26, u27, u28, u29, u30, u31, u32, u33, u34, u35, u36, u37, u38, u39, u40, u41, u42, u43, u44, u45, u46, u47, u48, u49, u50, u51, u52, u53, u54, u55, u56, u57, u58, u59, u60, u61, u62, u63, u64, u65, u66, u67, u68, u69, u70, u71, u72, u73, u74, u75, u76, u77, u78, u79, u80, u81, u82, u83, u84, u85, u86, u87, u88, u89, u90, u91, u92, u93, u94, u95, u96, u97, u98, u99, u100, u101, u102, u103, u104, u105, u106, u107, u108, u109, u110, u111, u112, u113, u114, u115, u116, u117, u118, u119, u120, u121, u122, u123, u124, u125, u126, u127, u128, u129, u130, u131, u132, u133, u134, u135, u136, u137, u138, u139, u140, u141, u142, u143, u144, u145, u146, u147, u148, u149, u150, u151, u152, u153, u154, u155, u156, u157, u158, u159, u160, u161, u162, u163, u164, u165, u166, u167, u168, u169, u170, u171, u172, u173, u174, u175, u176, u177, u178, u179, u180, u181, u182, u183, u184, u185, u186, u187, u188, u189, u190, u191, u192, u193, u194, u195, u196, u197, u198, u199, u200, u201, u202, u203, u204, u205, u206, u207, u208, u209, u210], []⟩ wb := by
  conv => arg 2; whnf
  dsimp only
  obtain ⟨G, hask, hwant, hfine⟩ := plays_asks (k : Int) n (by omega) (by omega) hn
  obtain ⟨hst, hxs⟩ := HS.out
  obtain ⟨g9, la, h9, hla, ema, tma, -, -⟩ := hst.at1 ha
  cases h9
  obtain ⟨g9, lb, h9, hlb, emb, tmb, -, -⟩ := hst.at1 hb
  cases h9
  obtain ⟨g9, da, h9, hda, eda, tda, -, -⟩ := hst.swap.at1 ha
  cases h9
  obtain ⟨g9, db, h9, hdb, edb, tdb, -, -⟩ := hst.swap.at1 hb
  cases h9
  have hxa : la.xs = da.xs := by
    have h1 : (ls.map Lst.xs)[a]? = some la.xs := by rw [List.getElem?_map, hla]; rfl
    have h2 : (ms.map Lst.xs)[a]? = some da.xs := by rw [List.getElem?_map, hda]; rfl
    rw [hxs, h2] at h1; exact (Option.some.inj h1).symm
  have hxb : lb.xs = db.xs := by
    have h1 : (ls.map Lst.xs)[b]? = some lb.xs := by rw [List.getElem?_map, hlb]; rfl
    have h2 : (ms.map Lst.xs)[b]? = some db.xs := by rw [List.getElem?_map, hdb]; rfl
    rw [hxs, h2] at h1; exact (Option.some.inj h1).symm
  unfold Lst.v at ema emb eda edb
  obtain ⟨R, hR⟩ : ∃ R, R = G la.xs lb.xs := ⟨_, rfl⟩
  have q1 : ∀ w9, Kp wb w9 → Calls Tryd.prog 7 #[.int .i64 (k : Int), .slice la.p la.xs.length la.c, .slice lb.p lb.xs.length lb.c, .int .u64 5, .int .i64 n] w9 fun e w' => ∃ p1 c1 p2 c2, e = .returned (.agg #[.slice p1 R.l1.length c1, .slice p2 R.l2.length c2, .int .u64 R.W, .int .i64 R.Z, .bool R.B, .int .i64 R.E]) ∧ Out w' w9.heap.size R p1 c1 p2 c2 ∧ Kp w9 w' := fun w9 k9 => by
    rw [hR]
    exact hask la.p lb.p la.c lb.c la.xs lb.xs w9 (hT.grown k9) (tma.arr.grown k9) (tmb.arr.grown k9) tma.1 tmb.1 tma.2.1 tmb.2.1 tma.2.2.1 tmb.2.2.1
  have hfr : Fine R := by rw [hR]; exact hfine _ _ tma.1 tma.2.1
  have hw9 : ∀ (pa pb : Option Addr) (ca cb La Lb : Nat) (w9 : World), Tab w9 → Arr w9 pa da.xs → Arr w9 pb db.xs → La = da.xs.length → Lb = db.xs.length → La ≤ ca → Lb ≤ cb → Calls Tryd.prog 8 #[.int .i64 (k : Int), .slice pa La ca, .slice pb Lb cb, .int .u64 5, .int .i64 n] w9 fun e w' => ∃ p1 c1 p2 c2, e = .returned (.agg #[.slice p1 R.l1.length c1, .slice p2 R.l2.length c2, .int .u64 R.W, .int .i64 R.Z, .bool R.B, .int .i64 R.E]) ∧ Out w' w9.heap.size R p1 c1 p2 c2 ∧ Kp w9 w' := fun pa pb ca cb La Lb w9 t9 a1 a2 l1 l2 h1 h2 => by
    subst l1 l2
    have h := hwant pa pb ca cb da.xs db.xs w9 t9 a1 a2 tda.1 tdb.1 tda.2.1 tdb.2.1 h1 h2
    rw [hR, hxa, hxb]; exact h
  obtain ⟨La, hLa⟩ : ∃ La, La = da.xs.length := ⟨_, rfl⟩
  obtain ⟨Lb, hLb⟩ : ∃ Lb, Lb = db.xs.length := ⟨_, rfl⟩
  rw [hxa, hxb, ← hLa, ← hLb] at q1
  rw [hxa, ← hLa] at ema
  rw [hxb, ← hLb] at emb
  rw [← hLa] at eda
  rw [← hLb] at edb
  obtain ⟨S1, hS1⟩ : ∃ S1, S1 = R.l1.length := ⟨_, rfl⟩
  obtain ⟨S2, hS2⟩ : ∃ S2, S2 = R.l2.length := ⟨_, rfl⟩
  rw [← hS1, ← hS2] at q1 hw9
  have ia : (a : Int) < 8 := by omega
  have ib : (b : Int) < 8 := by omega
  have H9 : Hid (La = da.xs.length ∧ Lb = db.xs.length ∧ TwoL (some ⟨gd, 0, none⟩) (some ⟨gm, 0, none⟩) wb da ∧ TwoL (some ⟨gd, 0, none⟩) (some ⟨gm, 0, none⟩) wb db ∧ Fine R ∧ S1 = R.l1.length ∧ S2 = R.l2.length ∧ Tab wb ∧ a < 8 ∧ gm < wb.heap.size ∧ gd < wb.heap.size) := ⟨hLa, hLb, tda, tdb, hfr, hS1, hS2, hT, ha, hst.r1.lt gm rfl, hst.r2.lt gd rfl⟩
  have HW : Hid (∀ (pa pb : Option Addr) (ca cb La Lb : Nat) (w9 : World), Tab w9 → Arr w9 pa da.xs → Arr w9 pb db.xs → La = da.xs.length → Lb = db.xs.length → La ≤ ca → Lb ≤ cb → Calls Tryd.prog 8 #[.int .i64 (k : Int), .slice pa La ca, .slice pb Lb cb, .int .u64 5, .int .i64 n] w9 fun e w' => ∃ p1 c1 p2 c2, e = .returned (.agg #[.slice p1 S1 c1, .slice p2 S2 c2, .int .u64 R.W, .int .i64 R.Z, .bool R.B, .int .i64 R.E]) ∧ Out w' w9.heap.size R p1 c1 p2 c2 ∧ Kp w9 w') := hw9
  clear hask hwant hfine hst hxs hla hlb hda hdb tma tmb tda tdb hxa hxb hR hLa hLb hS1 hS2 hfr hT ha hb hk hn hw9
  go_upto_region 24 with fail
  go_cut [14] from 123 to 133 (fun s14 wx => ∃ (gp : Nat) (p1 : Option Addr) (c1 : Nat) (p2 : Option Addr) (c2 : Nat), s14 = .pointer (some ⟨gp, 0, none⟩) ∧ Cs wx gp R p1 c1 p2 c2 ∧ Out wx wb.heap.size R p1 c1 p2 c2 ∧ wb.heap.size ≤ gp ∧ Kp wb wx)
  case first =>
    have k0 : Kp wb wb.drew := (Kp.refl _).drew
    clear hQ HW HS
    refine wp_region_noPanic ?_
    go_region_held3 (fun w' => w'.cell? ⟨gm, a, none⟩ = some (.slice la.p La la.c) ∧ w'.cell? ⟨gm, b, none⟩ = some (.slice lb.p Lb lb.c)) ((refine ⟨kkeep (W := wb) ?_ ema, kkeep (W := wb) ?_ emb⟩ <;> ((repeat (first | with_reducible exact k1 | with_reducible exact k0 | with_reducible exact Kp.refl _ | with_reducible refine Kp.drew ?_ | with_reducible refine Kp.alloc ?_ _ | refine Kp.setCell ?_ (Nat.le_refl _) _)); done))) (first | (go_at_call 7; refine (q1 _ ?kk1).mono ?_; (case kk1 => ((repeat (first | with_reducible exact k1 | with_reducible exact k0 | with_reducible exact Kp.refl _ | with_reducible refine Kp.drew ?_ | with_reducible refine Kp.alloc ?_ _ | refine Kp.setCell ?_ (Nat.le_refl _) _)); done)); rintro e w1 ⟨p1, c1, p2, c2, rfl, o1, k9⟩; have k1 : Kp wb w1 := Kp.trans ?kk2 k9; (case kk2 => ((repeat (first | with_reducible exact k1 | with_reducible exact k0 | with_reducible exact Kp.refl _ | with_reducible refine Kp.drew ?_ | with_reducible refine Kp.alloc ?_ _ | refine Kp.setCell ?_ (Nat.le_refl _) _)); done)); first | (have sx := (Six.born _).grown k9; obtain ⟨z0, z1, z2, z3, z4, z5, f0, f1, f2, f3, f4, f5⟩ := sx) | (have sx := ((Six.born _).grown ((Kp.refl _).drew)).grown k9; obtain ⟨z0, z1, z2, z3, z4, z5, f0, f1, f2, f3, f4, f5⟩ := sx) | skip))
    · refine NoPanic.normal ?_
      go_wp2_with fail
      go_meet
      refine ⟨w1.heap.size, p1, c1, p2, c2, rfl, ?_, ⟨(o1.o1.kp ((Kp.refl w1).alloc _)).mono (Nat.le_refl _), (o1.o2.kp ((Kp.refl w1).alloc _)).mono (Nat.le_refl _), o1.ne⟩, Below.size k1, k1.alloc _⟩
      have h := Cs.born w1 32 R p1 p2 c1 c2
      rw [← H9.out.2.2.2.2.2.1, ← H9.out.2.2.2.2.2.2.1] at h
      exact h
    · refine NoPanic.normal ?_
      go_wp2_with fail
      go_meet
      obtain ⟨hcs, hkb⟩ := six_cs w1 wb.heap.size R p1 p2 c1 c2 S1 S2 ⟨z0, z1, z2, z3, z4, z5, f0, f1, f2, f3, f4, f5⟩ H9.out.2.2.2.2.2.1 H9.out.2.2.2.2.2.2.1 _ rfl
      have hb9 := o1.bd
      have ho := o1.kb hkb hb9 (Or.inl (by simp))
      exact ⟨wb.heap.size, p1, c1, p2, c2, rfl, hcs, ⟨ho.o1.mono (by simp), ho.o2.mono (by simp), ho.ne⟩, Nat.le_refl _, hkb.kp k1 (Nat.le_refl _)⟩
  case rest =>
  obtain ⟨gp, p1, c1, p2, c2, rfl, C1, o1, hgp, kc⟩ := hcut
  replace eda := kkeep kc eda
  replace edb := kkeep kc edb
  have HC1 : Hid (Cs wc gp R p1 c1 p2 c2 ∧ Out wc wb.heap.size R p1 c1 p2 c2 ∧ wb.heap.size ≤ gp ∧ Kp wb wc) := ⟨C1, o1, hgp, kc⟩
  have HCA : Hid (∀ W, Kp wc W → Calls Tryd.prog 5 #[.slice da.p La da.c] W fun e W' => ∃ g, e = .returned (.slice (some ⟨g, 0, none⟩) La La) ∧ Rw W' g La da.xs ∧ Kp W W') := by
    show ∀ W, Kp wc W → Calls Tryd.prog 5 #[.slice da.p La da.c] W fun e W' => ∃ g, e = .returned (.slice (some ⟨g, 0, none⟩) La La) ∧ Rw W' g La da.xs ∧ Kp W W'
    intro W kw
    obtain ⟨l1, -, t1, -⟩ := H9.out
    have q := copied_ da.p da.c da.xs W (t1.arr.grown (kc.trans kw)) (by have := t1.2.1; omega)
    rw [← l1] at q
    exact q.mono (fun e W' ⟨g, h1, h2, h3, h4⟩ => ⟨g, h1, h3, h4⟩)
  have HCB : Hid (∀ W, Kp wc W → Calls Tryd.prog 5 #[.slice db.p Lb db.c] W fun e W' => ∃ g, e = .returned (.slice (some ⟨g, 0, none⟩) Lb Lb) ∧ Rw W' g Lb db.xs ∧ Kp W W') := by
    show ∀ W, Kp wc W → Calls Tryd.prog 5 #[.slice db.p Lb db.c] W fun e W' => ∃ g, e = .returned (.slice (some ⟨g, 0, none⟩) Lb Lb) ∧ Rw W' g Lb db.xs ∧ Kp W W'
    intro W kw
    obtain ⟨-, l1, -, t1, -⟩ := H9.out
    have q := copied_ db.p db.c db.xs W (t1.arr.grown (kc.trans kw)) (by have := t1.2.1; omega)
    rw [← l1] at q
    exact q.mono (fun e W' ⟨g, h1, h2, h3, h4⟩ => ⟨g, h1, h3, h4⟩)
  have HWD : Hid (∀ g g' W, Kp wc W → Rw W g La da.xs → Rw W g' Lb db.xs → Calls Tryd.prog 8 #[.int .i64 (k : Int), .slice (some ⟨g, 0, none⟩) La La, .slice (some ⟨g', 0, none⟩) Lb Lb, .int .u64 5, .int .i64 n] W fun e w' => ∃ p1 c1 p2 c2, e = .returned (.agg #[.slice p1 S1 c1, .slice p2 S2 c2, .int .u64 R.W, .int .i64 R.Z, .bool R.B, .int .i64 R.E]) ∧ Out w' W.heap.size R p1 c1 p2 c2 ∧ Kp W w') := by
    show ∀ g g' W, Kp wc W → Rw W g La da.xs → Rw W g' Lb db.xs → Calls Tryd.prog 8 #[.int .i64 (k : Int), .slice (some ⟨g, 0, none⟩) La La, .slice (some ⟨g', 0, none⟩) Lb Lb, .int .u64 5, .int .i64 n] W fun e w' => ∃ p1 c1 p2 c2, e = .returned (.agg #[.slice p1 S1 c1, .slice p2 S2 c2, .int .u64 R.W, .int .i64 R.Z, .bool R.B, .int .i64 R.E]) ∧ Out w' W.heap.size R p1 c1 p2 c2 ∧ Kp W w'
    intro g g' W kw r1 r2
    obtain ⟨l1, l2, -, -, -, -, -, tb, -⟩ := H9.out
    exact HW.out _ _ La Lb La Lb W (tb.grown (kc.trans kw)) (r1.all l1.symm) (r2.all l2.symm) l1 l2 (Nat.le_refl _) (Nat.le_refl _)
  clear q1 ema emb C1 o1 hgp kc HW
  go_upto_region 25 with fail
  go_cut [15] from 134 to 146 (fun s15 wx => ∃ (gw : Nat) (q1 : Option Addr) (d1 : Nat) (q2 : Option Addr) (d2 : Nat), s15 = .pointer (some ⟨gw, 0, none⟩) ∧ Cs wx gw R q1 d1 q2 d2 ∧ Out wx wc.heap.size R q1 d1 q2 d2 ∧ wc.heap.size ≤ gw ∧ Kp wc wx)
  case first =>
    have k0 : Kp wc wc.drew := (Kp.refl _).drew
    clear hQ HS HC1
    refine wp_region_noPanic ?_
    go_region_held3 (fun w' => w'.cell? ⟨gd, a, none⟩ = some (.slice da.p La da.c) ∧ w'.cell? ⟨gd, b, none⟩ = some (.slice db.p Lb db.c)) ((refine ⟨kkeep (W := wc) ?_ eda, kkeep (W := wc) ?_ edb⟩ <;> ((repeat (first | with_reducible exact k3 | with_reducible exact k2 | with_reducible exact k1 | with_reducible exact k0 | with_reducible exact Kp.refl _ | with_reducible refine Kp.drew ?_ | with_reducible refine Kp.alloc ?_ _ | refine Kp.setCell ?_ (Nat.le_refl _) _ | refine Kp.setCell ?_ (Below.size k1) _ | refine Kp.setCell ?_ (Below.size k2) _)); done))) (first | (go_at_call 5; have hh := r1; refine (HCB.out _ ?kb1).mono ?_; (case kb1 => ((repeat (first | with_reducible exact k3 | with_reducible exact k2 | with_reducible exact k1 | with_reducible exact k0 | with_reducible exact Kp.refl _ | with_reducible refine Kp.drew ?_ | with_reducible refine Kp.alloc ?_ _ | refine Kp.setCell ?_ (Nat.le_refl _) _ | refine Kp.setCell ?_ (Below.size k1) _ | refine Kp.setCell ?_ (Below.size k2) _)); done)); rintro e v2 ⟨g2, rfl, r2, k12⟩; have k2 : Kp wc v2 := Kp.trans ?kb2 k12; (case kb2 => ((repeat (first | with_reducible exact k3 | with_reducible exact k2 | with_reducible exact k1 | with_reducible exact k0 | with_reducible exact Kp.refl _ | with_reducible refine Kp.drew ?_ | with_reducible refine Kp.alloc ?_ _ | refine Kp.setCell ?_ (Nat.le_refl _) _ | refine Kp.setCell ?_ (Below.size k1) _ | refine Kp.setCell ?_ (Below.size k2) _)); done)); have r1' := r1.grown (Kp.trans ?kb3 k12); (case kb3 => ((repeat (first | with_reducible exact Kp.refl _ | with_reducible refine Kp.drew ?_ | with_reducible refine Kp.alloc ?_ _)); done)); first | (have SX2 := (Six.born _).grown k12; have SX2' := SX2; obtain ⟨z0, z1, z2, z3, z4, z5, f0, f1, f2, f3, f4, f5⟩ := SX2') | (have SX2 := ((Six.born _).grown ((Kp.refl _).drew)).grown k12; have SX2' := SX2; obtain ⟨z0, z1, z2, z3, z4, z5, f0, f1, f2, f3, f4, f5⟩ := SX2') | (have SX2 := SX1.grown k12; have SX2' := SX2; obtain ⟨z0, z1, z2, z3, z4, z5, f0, f1, f2, f3, f4, f5⟩ := SX2') | skip) | (go_at_call 5; refine (HCA.out _ ?ka1).mono ?_; (case ka1 => ((repeat (first | with_reducible exact k3 | with_reducible exact k2 | with_reducible exact k1 | with_reducible exact k0 | with_reducible exact Kp.refl _ | with_reducible refine Kp.drew ?_ | with_reducible refine Kp.alloc ?_ _ | refine Kp.setCell ?_ (Nat.le_refl _) _ | refine Kp.setCell ?_ (Below.size k1) _ | refine Kp.setCell ?_ (Below.size k2) _)); done)); rintro e v1 ⟨g1, rfl, r1, k01⟩; have k1 : Kp wc v1 := Kp.trans ?ka2 k01; (case ka2 => ((repeat (first | with_reducible exact k3 | with_reducible exact k2 | with_reducible exact k1 | with_reducible exact k0 | with_reducible exact Kp.refl _ | with_reducible refine Kp.drew ?_ | with_reducible refine Kp.alloc ?_ _ | refine Kp.setCell ?_ (Nat.le_refl _) _ | refine Kp.setCell ?_ (Below.size k1) _ | refine Kp.setCell ?_ (Below.size k2) _)); done)); first | (have SX1 := (Six.born _).grown k01; have SX1' := SX1; obtain ⟨z0, z1, z2, z3, z4, z5, f0, f1, f2, f3, f4, f5⟩ := SX1') | (have SX1 := ((Six.born _).grown ((Kp.refl _).drew)).grown k01; have SX1' := SX1; obtain ⟨z0, z1, z2, z3, z4, z5, f0, f1, f2, f3, f4, f5⟩ := SX1') | skip) | (go_at_call 8; refine (HWD.out g1 g2 _ ?kc1 ?kc2 ?kc3).mono ?_; (case kc1 => ((repeat (first | with_reducible exact k3 | with_reducible exact k2 | with_reducible exact k1 | with_reducible exact k0 | with_reducible exact Kp.refl _ | with_reducible refine Kp.drew ?_ | with_reducible refine Kp.alloc ?_ _ | refine Kp.setCell ?_ (Nat.le_refl _) _ | refine Kp.setCell ?_ (Below.size k1) _ | refine Kp.setCell ?_ (Below.size k2) _)); done)); (case kc2 => (exact r1'.grown (by repeat (first | with_reducible exact Kp.refl _ | with_reducible refine Kp.drew ?_ | with_reducible refine Kp.alloc ?_ _)))); (case kc3 => (exact r2.grown (by repeat (first | with_reducible exact Kp.refl _ | with_reducible refine Kp.drew ?_ | with_reducible refine Kp.alloc ?_ _)))); rintro e v3 ⟨q1, d1, q2, d2, rfl, o2, k23⟩; have k3 : Kp wc v3 := Kp.trans ?kc4 k23; (case kc4 => ((repeat (first | with_reducible exact k3 | with_reducible exact k2 | with_reducible exact k1 | with_reducible exact k0 | with_reducible exact Kp.refl _ | with_reducible refine Kp.drew ?_ | with_reducible refine Kp.alloc ?_ _ | refine Kp.setCell ?_ (Nat.le_refl _) _ | refine Kp.setCell ?_ (Below.size k1) _ | refine Kp.setCell ?_ (Below.size k2) _)); done)); first | (have SX3 := (Six.born _).grown k23; have SX3' := SX3; obtain ⟨z0, z1, z2, z3, z4, z5, f0, f1, f2, f3, f4, f5⟩ := SX3') | (have SX3 := ((Six.born _).grown ((Kp.refl _).drew)).grown k23; have SX3' := SX3; obtain ⟨z0, z1, z2, z3, z4, z5, f0, f1, f2, f3, f4, f5⟩ := SX3') | (have SX3 := SX2.grown k23; have SX3' := SX3; obtain ⟨z0, z1, z2, z3, z4, z5, f0, f1, f2, f3, f4, f5⟩ := SX3') | skip))
    all_goals (refine NoPanic.normal ?_; go_wp2_with fail; go_meet)
    all_goals first
      | (refine ⟨v3.heap.size, q1, d1, q2, d2, ?_, ?_, ?_, Below.size k3, ?_⟩
         · with_reducible rfl
         · have h := Cs.born v3 32 R q1 q2 d1 d2
           rw [← H9.out.2.2.2.2.2.1, ← H9.out.2.2.2.2.2.2.1] at h
           exact h
         · exact ⟨(o2.o1.kp ((Kp.refl v3).alloc _)).mono (Below.size k2), (o2.o2.kp ((Kp.refl v3).alloc _)).mono (Below.size k2), o2.ne⟩
         · exact k3.alloc _)
      | (obtain ⟨hcs, hkb⟩ := six_cs v3 _ R q1 q2 d1 d2 S1 S2 SX3 H9.out.2.2.2.2.2.1 H9.out.2.2.2.2.2.2.1 _ rfl
         have hb9 := o2.bd
         have ho := o2.kb hkb hb9 (Or.inl (by first | exact cell_lt SX2.z0 | simp))
         refine ⟨_, q1, d1, q2, d2, rfl, hcs, ⟨ho.o1.mono ?_, ho.o2.mono ?_, ho.ne⟩, ?_, hkb.kp k3 ?_⟩ <;> first | with_reducible exact Nat.le_refl _ | with_reducible exact Below.size k1 | with_reducible exact Below.size k2 | (have := Below.size k1; have := Below.size k2; simp; omega) | exact Nat.le_refl _ | (have h1 := Below.size k1; have h2 := Below.size k2; exact Nat.le_succ_of_le h2) | (trace_state; fail))
  case rest =>
  obtain ⟨gw, q1, d1, q2, d2, rfl, C2, o2, hgw, kd⟩ := hcut
  obtain ⟨C1, o1, hgp, kc⟩ := HC1.out
  obtain ⟨-, -, -, -, fr, -, -, -, ha, lgm, lgd⟩ := H9.out
  have hs1 := Below.size kc
  apply_assumption
  exact plC w wc Q k a gm gd gp gw _ cp cq ls ms R p1 p2 q1 q2 c1 c2 d1 d2 ⟨(HS.out.1.grown kc).grown kd, HS.out.2⟩ ha lgm lgd hgp (by omega) (C1.grown kd) C2 ⟨o1.grown kd, ⟨o2.o1.mono hs1, o2.o2.mono hs1, o2.ne⟩, fr⟩ _ _ _ _ _ _ _ _ _ _ _ _ _ _ _ _ _ _ _ _ _ _ _ _ _ _ _ _ _ _ _ _ _ _ _ _ _ _ _ _ _ _ _ _ _ _ _ _ _ _ _ _ _ _ _ _ _ _ _ _ _ _ _ _ _ _ _ _ _ _ _ _ _ _ _ _ _ _ _ _ _ _ _ _ _ _ _ _ _ _ _ _ _ _ _ _ _ _ _ _ _ _ _ _ _ _ _ _ _ _ _ _ _ _ _ _ _ _ _ _ _ _ _ _ _ _ _ _ _ _ _ _ _ _ _ _ _ _ _ _ _ _ _ _ _ _ _ _ _ _ _ _ _ _ _ _ _ _ _ _ _ _ _ _ _ _ _ _ _ _ _ _ _ _ _ _ _ _ _ _ _ _ _ _ _ _ _ _ _ _ _ _ _ _ _ _ _ _ _ _ _ _ _ _ _ hQ
set_option maxRecDepth 100000 in
set_option maxHeartbeats 10000000 in
theorem plA (w wr : World) (Q : Exit → Act → World → Prop) (i S cs bs off cp cq : Nat) (p q : Option Addr) (z0 z1 z2 z3 : Int) (ls ms : List Lst) (HI : Hid (i < S ∧ PSt w wr p 8 cp ls q 8 cq ms ∧ ls.map Lst.xs = ms.map Lst.xs ∧ Tab wr ∧ -9223372036854775808 ≤ z3 ∧ z3 < 9223372036854775808)) (e0 : wr.cell? ⟨bs, off + i * 4, none⟩ = some (.int .i64 z0)) (e1 : wr.cell? ⟨bs, off + i * 4 + 1, none⟩ = some (.int .i64 z1)) (e2 : wr.cell? ⟨bs, off + i * 4 + 2, none⟩ = some (.int .i64 z2)) (e3 : wr.cell? ⟨bs, off + i * 4 + 3, none⟩ = some (.int .i64 z3)) (t1 : (i : Int) < (S : Int)) (_hi9 : i ≤ 1048576) (_lS : S ≤ 1048576) (u0 u2 u3 u4 u7 u8 u10 u11 u12 u13 u14 u15 u16 u17 u18 u19 u20 u21 u22 u23 u24 u25 u26 u27 u28 u29 u30 u31 u32 u33 u34 u35 u36 u37 u38 u39 u40 u41 u42 u43 u44 u45 u46 u47 u48 u49 u50 u51 u52 u53 u54 u55 u56 u57 u58 u59 u60 u61 u62 u63 u64 u65 u66 u67 u68 u69 u70 u71 u72 u73 u74 u75 u76 u77 u78 u79 u80 u81 u82 u83 u84 u85 u86 u87 u88 u89 u90 u91 u92 u93 u94 u95 u96 u97 u98 u99 u100 u101 u102 u103 u104 u105 u106 u107 u108 u109 u110 u111 u112 u113 u114 u115 u116 u117 u118 u119 u120 u121 u122 u123 u124 u125 u126 u127 u128 u129 u130 u131 u132 u133 u134 u135 u136 u137 u138 u139 u140 u141 u142 u143 u144 u145 u146 u147 u148 u149 u150 u151 u152 u153 u154 u155 u156 u157 u158 u159 u160 u161 u162 u163 u164 u165 u166 u167 u168 u169 u170 u171 u172 u173 u174 u175 u176 u177 u178 u179 u180 u181 u182 u183 u184 u185 u186 u187 u188 u189 u190 u191 u192 u193 u194 u195 u196 u197 u198 u199 u200 u201 u202 u203 u204 u205 u206 u207 u208 u209 u210 : Value) (hQ : ∀ (v4 v10 v11 v12 v13 v14 v15 v16 v50 v51 v52 v53 v54 v55 v56 v57 v58 v59 v60 v61 v62 v63 v64 v65 v66 v67 v68 v69 v70 v71 v72 v73 v74 v75 v76 v77 v78 v79 v80 v81 v82 v83 v84 v85 v86 v87 v88 v89 v90 v91 v92 v93 v94 v95 v96 v97 v98 v99 v100 v101 v102 v103 v104 v105 v106 v107 v108 v109 v110 v111 v112 v113 v114 v115 v116 v117 v118 v119 v120 v121 v122 v123 v124 v125 v126 v127 v128 v129 v130 v131 v132 v133 v134 v135 v136 v137 v138 v139 v140 v141 v142 v143 v144 v145 v146 v147 v148 v149 v150 v151 v152 v153 v154 v155 v156 v157 v158 v159 v160 v161 v162 v163 v164 v165 v166 v167 v168 v169 v170 v171 v172 v173 v174 v175 v176 v177 v178 v179 v180 v181 v182 v183 v184 v185 v186 v187 v188 v189 v190 v191 v192 v193 v194 v195 v196 v197 v198 v199 v200 v201 v202 v203 v204 v205 v206 v207 v208 v209 : Value) (w' : World) (ls' ms' : List Lst), PSt w w' p 8 cp ls' q 8 cq ms' → ls'.map Lst.xs = ms'.map Lst.xs → Q .normal ⟨#[u0, .slice (some ⟨bs, off, none⟩) S cs, u2, u3, v4, .slice p 8 cp, .slice q 8 cq, u7, u8, .int .i64 (i : Int), v10, v11, v12, v13, v14, v15, v16, u17, u18, u19, u20, u21, u22, u23, u24, u25, u26, u27, u28, u29, u30, u31, u32, u33, u34, u35, u36, u37, u38, u39, u40, u41, u42, u43, u44, u45, u46, u47, u48, u49, v50, v51, v52, v53, v54, v55, v56, v57, v58, v59, v60, v61, v62, v63, v64, v65, v66, v67, v68, v69, v70, v71, v72, v73, v74, v75, v76, v77, v78, v79, v80, v81, v82, v83, v84, v85, v86, v87, v88, v89, v90, v91, v92, v93, v94, v95, v96, v97, v98, v99, v100, v101, v102, v103, v104, v105, v106, v107, v108, v109, v110, v111, v112, v113, v114, v115, v116, v117, v118, v119, v120, v121, v122, v123, v124, v125, v126, v127, v128, v129, v130, v131, v132, v133, v134, v135, v136, v137, v138, v139, v140, v141, v142, v143, v144, v145, v146, v147, v148, v149, v150, v151, v152, v153, v154, v155, v156, v157, v158, v159, v160, v161, v162, v163, v164, v165, v166, v167, v168, v169, v170, v171, v172, v173, v174, v175, v176, v177, v178, v179, v180, v181, v182, v183, v184, v185, v186, v187, v188, v189, v190, v191, v192, v193, v194, v195, v196, v197, v198, v199, v200, v201, v202, v203, v204, v205, v206, v207, v208, v209, u210], []⟩ w') :
    Code.wp Tryd.prog (roundC (Tryd.f3.body.getD .skip)) Q ⟨#[u0, .slice (some ⟨bs, off, none⟩) S cs, u2, u3, u4, .slice p 8 cp, .slice q 8 cq, u7, u8, .int .i64 (i : Int), u10, u11, u12, u13, u14, u15, u16, u17, u18, u19, u20, u21, u22, u23, u24, u25, u26, u27, u28, u29, u30, u31, u32, u33, u34, u35, u36, u37, u38, u39, u40, u41, u42, u43, u44, u45, u46, u47, u48, u49, u50, u51, u52, u53, u54, u55, u56, u57, u58, u59, u60, u61, u62, u63, u64, u65, u66, u67, u68, u69, u70, u71, u72, u73, u74, u75, u76, u77, u78, u79, u80, u81, u82, u83, u84, u85, u86, u87, u88, u89, u90, u91, u92, u93, u94, u95, u96, u97, u98, u99, u100, u101, u102, u103, u104, u105, u106, u107, u108, u109, u110, u111, u112, u113, u114, u115, u116, u117, u118, u119, u120, u121, u122, u123, u124, u125, u126, u127, u128, u129, u130, u131, u132, u133, u134, u135, u136, u137, u138, u139, u140, u141, u142, u143, u144, u145, u146, u147, u148, u149, u150, u151, u152, u153, u154, u155, u156, u157, u158, u159, u160, u161, u162, u163, u164, u165, u166, u167, u168, u169, u170, u171, u172, u173, u174, u175, u176, u177, u178, u179, u180, u181, u182, u183, u184, u185, u186, u187, u188, u189, u190, u191, u192, u193, u194, u195, u196, u197, u198, u199, u200, u201, u202, u203, u204, u205, u206, u207, u208, u209, u210], []⟩ wr := by
  conv => arg 2; whnf
  go_upto_if 55 with fail
  go_cut [10] from 56 to 61 (fun s10 wx => ∃ k : Nat, s10 = .int .i64 (k : Int) ∧ k ≤ 13 ∧ wx = wr)
  case first =>
    clear hQ HI
    by_cases cc : 0 ≤ z0
    · obtain ⟨m, rfl⟩ := Int.eq_ofNat_of_zero_le cc
      have f1 : ((m : Nat) : Int).tmod 14 = ((m % 14 : Nat) : Int) := rfl
      obtain ⟨r, hr⟩ : ∃ r, r = m % 14 := ⟨_, rfl⟩
      have hr8 : r ≤ 13 := by omega
      rw [← hr] at f1
      have f2 : ((m : Nat) : Int) % 14 = (r : Int) := by omega
      clear hr
      go_wp2_with fail
      go_meet
      exact ⟨r, by first | rfl | simp only [f1] | simp only [f2], hr8, rfl⟩
    · go_wp2_with fail
      go_meet
      exact ⟨0, rfl, by omega, rfl⟩
  case rest =>
  obtain ⟨k, rfl, hk, hwc⟩ := hcut
  obtain rfl := hwc.symm
  clear hwc e0
  have p1 := place8_ z1
  go_wp2_with fail
  refine (p1 _).mono ?_; rintro e w' ⟨a, rfl, ha, hw'⟩; obtain rfl := hw'.symm; clear hw' p1 e1
  have p1 := place8_ z2
  go_wp2_with fail
  refine (p1 _).mono ?_; rintro e w' ⟨b, rfl, hb, hw'⟩; obtain rfl := hw'.symm; clear hw' p1 e2
  -- the rows' cells
  obtain ⟨hiS, hst, hxs, hT, hz3⟩ := HI.out
  obtain ⟨gm, la, hpm, hla, ema, tma, -, hacp⟩ := hst.at1 ha
  obtain ⟨gm', lb, hpm', hlb, emb, tmb, -, -⟩ := hst.at1 hb
  obtain ⟨gd, da, hqd, hda, eda, tda, -, hacq⟩ := hst.swap.at1 ha
  obtain ⟨gd', db, hqd', hdb, edb, tdb, -, -⟩ := hst.swap.at1 hb
  obtain rfl : gm = gm' := by rw [hpm] at hpm'; cases hpm'; rfl
  clear hpm'
  obtain rfl : gd = gd' := by rw [hqd] at hqd'; cases hqd'; rfl
  clear hqd'
  have hxa : la.xs = da.xs := by
    have h1 : (ls.map Lst.xs)[a]? = some la.xs := by rw [List.getElem?_map, hla]; rfl
    have h2 : (ms.map Lst.xs)[a]? = some da.xs := by rw [List.getElem?_map, hda]; rfl
    rw [hxs, h2] at h1; exact (Option.some.inj h1).symm
  have hxb : lb.xs = db.xs := by
    have h1 : (ls.map Lst.xs)[b]? = some lb.xs := by rw [List.getElem?_map, hlb]; rfl
    have h2 : (ms.map Lst.xs)[b]? = some db.xs := by rw [List.getElem?_map, hdb]; rfl
    rw [hxs, h2] at h1; exact (Option.some.inj h1).symm
  unfold Lst.v at ema emb eda edb
  rw [hxa] at ema
  rw [hxb] at emb
  obtain ⟨La, hLa⟩ : ∃ La, La = da.xs.length := ⟨_, rfl⟩
  obtain ⟨Lb, hLb⟩ : ∃ Lb, Lb = db.xs.length := ⟨_, rfl⟩
  rw [← hLa] at ema eda
  rw [← hLb] at emb edb
  have HL : Hid (La = da.xs.length ∧ Lb = db.xs.length ∧ la.xs = da.xs ∧ lb.xs = db.xs ∧ TwoL p q wr la ∧ TwoL p q wr lb ∧ TwoL q p wr da ∧ TwoL q p wr db ∧ a < cp ∧ a < cq) := ⟨hLa, hLb, hxa, hxb, tma, tmb, tda, tdb, hacp, hacq⟩
  have lLa : La ≤ 1048576 := by have := tda.2.1; omega
  have lLb : Lb ≤ 1048576 := by have := tdb.2.1; omega
  subst hpm hqd
  have ia : (a : Int) < 8 := by omega
  have ib : (b : Int) < 8 := by omega
  have HP : Hid (a < 8 ∧ b < 8) := ⟨ha, hb⟩
  clear hiS hst hxs hT hz3 hla hlb hda hdb tma tmb tda tdb hxa hxb hLa hLb hacp hacq
  go_upto_region 19 with fail
  go_cut [101] from 74 to 101 (fun s101 wx => ∃ bb : Bool, s101 = .bool bb ∧ Kp wr wx)
  case first =>
    clear hQ HI HL HP
    by_cases c1 : 900 < La + Lb
    · by_cases c2 : k = 13
      · subst c2
        have t1 : decide ((900 : Int) < (La : Int) + (Lb : Int)) = true := by simp; omega
        go_quiet (fail)
        go_wp2_with fail
        go_meet
        exact ⟨false, rfl, Kp.drewN _ (Kp.refl _)⟩
      · have t1 : decide ((900 : Int) < (La : Int) + (Lb : Int)) = true := by simp; omega
        have uu1 : (((k : Int) : Int) == 13) = false := by simp; omega
        have uu2 : (((k : Int) : Int) != 13) = true := by simp; omega
        have uu3 : decide (((k : Int) : Int) = 13) = false := by simp; omega
        clear c2
        go_quiet (fail)
        go_wp2_with fail
        go_meet
        exact ⟨true, rfl, Kp.drewN _ (Kp.refl _)⟩
    · by_cases c2 : k = 11
      · subst c2
        by_cases c3 : 8 < La
        · have t1 : decide ((900 : Int) < (La : Int) + (Lb : Int)) = false := by simp; omega
          have uu1 : decide ((8 : Int) < (La : Int)) = true := by simp; omega
          go_quiet (fail)
          go_wp2_with fail
          go_meet
          exact ⟨true, rfl, Kp.drewN _ (Kp.refl _)⟩
        · have t1 : decide ((900 : Int) < (La : Int) + (Lb : Int)) = false := by simp; omega
          have uu1 : decide ((8 : Int) < (La : Int)) = false := by simp; omega
          go_quiet (fail)
          go_wp2_with fail
          go_meet
          exact ⟨false, rfl, Kp.drewN _ (Kp.refl _)⟩
      · have t1 : decide ((900 : Int) < (La : Int) + (Lb : Int)) = false := by simp; omega
        have uu1 : (((k : Int) : Int) == 11) = false := by simp; omega
        have uu2 : (((k : Int) : Int) != 11) = true := by simp; omega
        have uu3 : decide (((k : Int) : Int) = 11) = false := by simp; omega
        clear c2
        go_quiet (fail)
        go_wp2_with fail
        go_meet
        exact ⟨false, rfl, Kp.drewN _ (Kp.refl _)⟩
  case rest =>
  obtain ⟨bb, rfl, kc⟩ := hcut
  replace ema := kkeep kc ema
  replace emb := kkeep kc emb
  replace eda := kkeep kc eda
  replace edb := kkeep kc edb
  replace e3 := kkeep kc e3
  have HK : Hid (Kp wr wc) := kc
  clear kc
  go_upto_if 101 with fail
  go_cut [10] from 101 to 101 (fun s10 wx => ∃ k' : Nat, s10 = .int .i64 (k' : Int) ∧ k' ≤ 13 ∧ wx = wc)
  case first =>
    clear hQ HI HL HP HK
    cases bb
    · go_wp2_with fail
      go_meet
      exact ⟨k, rfl, hk, rfl⟩
    · go_wp2_with fail
      go_meet
      exact ⟨7, rfl, by omega, rfl⟩
  case rest =>
  obtain ⟨k', rfl, hk', hwc⟩ := hcut
  obtain rfl := hwc.symm
  clear hwc hk
  go_upto_region 22 with fail
  go_cut [120] from 107 to 120 (fun s120 wx => ∃ bb : Bool, s120 = .bool bb ∧ wx = wc)
  case first =>
    clear hQ HI HL HP HK
    by_cases c1 : k' = 11
    · subst c1
      by_cases c2 : 40 < z3
      · go_wp2_with fail
        go_meet
        exact ⟨true, rfl, rfl⟩
      · go_wp2_with fail
        go_meet
        exact ⟨false, rfl, rfl⟩
    · have uu1 : (((k' : Int) : Int) == 11) = false := by simp; omega
      have uu2 : (((k' : Int) : Int) != 11) = true := by simp; omega
      have uu3 : decide (((k' : Int) : Int) = 11) = false := by simp; omega
      by_cases c2 : k' = 12
      · subst c2
        by_cases c3 : 9000 < z3
        · clear c1
          go_wp2_with fail
          go_meet
          exact ⟨true, rfl, rfl⟩
        · clear c1
          go_wp2_with fail
          go_meet
          exact ⟨false, rfl, rfl⟩
      · have vv1 : (((k' : Int) : Int) == 12) = false := by simp; omega
        have vv2 : (((k' : Int) : Int) != 12) = true := by simp; omega
        have vv3 : decide (((k' : Int) : Int) = 12) = false := by simp; omega
        clear c1 c2
        go_wp2_with fail
        go_meet
        exact ⟨false, rfl, rfl⟩
  case rest =>
  obtain ⟨bn, rfl, hwc⟩ := hcut
  obtain rfl := hwc.symm
  clear hwc e3
  go_upto_if 120 with fail
  go_cut [13] from 121 to 122 (fun s13 wx => ∃ n : Int, s13 = .int .i64 n ∧ n < 9223372036854775808 ∧ wx = wc)
  case first =>
    obtain ⟨-, -, -, -, hz1, hz2⟩ := HI.out
    clear hQ HI HL HP HK
    cases bn
    · go_wp2_with fail
      go_meet
      exact ⟨z3, rfl, hz2, rfl⟩
    · obtain ⟨m, hm⟩ : ∃ m, m = z3.tmod 41 := ⟨_, rfl⟩
      have f1 : z3.tmod 41 = m := hm.symm
      have hm2 : m < 9223372036854775808 := by
        have := Int.tmod_lt_of_pos z3 (show (0 : Int) < 41 by decide); omega
      clear hm
      go_wp2_with fail
      go_meet
      exact ⟨m, by first | rfl | simp only [f1], hm2, rfl⟩
  case rest =>
  obtain ⟨n, rfl, hn, hwc⟩ := hcut
  obtain rfl := hwc.symm
  clear hwc
  apply_assumption
  exact plB w wc Q k' a b gm gd cp cq n ls ms ⟨HI.out.2.1.grown HK.out, HI.out.2.2.1⟩ (HI.out.2.2.2.1.grown HK.out) HP.out.1 HP.out.2 hk' hn _ _ _ _ _ _ _ _ _ _ _ _ _ _ _ _ _ _ _ _ _ _ _ _ _ _ _ _ _ _ _ _ _ _ _ _ _ _ _ _ _ _ _ _ _ _ _ _ _ _ _ _ _ _ _ _ _ _ _ _ _ _ _ _ _ _ _ _ _ _ _ _ _ _ _ _ _ _ _ _ _ _ _ _ _ _ _ _ _ _ _ _ _ _ _ _ _ _ _ _ _ _ _ _ _ _ _ _ _ _ _ _ _ _ _ _ _ _ _ _ _ _ _ _ _ _ _ _ _ _ _ _ _ _ _ _ _ _ _ _ _ _ _ _ _ _ _ _ _ _ _ _ _ _ _ _ _ _ _ _ _ _ _ _ _ _ _ _ _ _ _ _ _ _ _ _ _ _ _ _ _ _ _ _ _ _ _ _ _ _ _ _ _ _ _ _ _ _ _ _ _ _ _ _ _ (fun v4 v10 v11 v12 v13 v14 v15 v16 v74 v75 v76 v77 v78 v79 v80 v81 v82 v83 v84 v85 v86 v87 v88 v89 v90 v91 v92 v93 v94 v95 v96 v97 v98 v99 v100 v101 v102 v103 v104 v105 v106 v107 v108 v109 v110 v111 v112 v113 v114 v115 v116 v117 v118 v119 v120 v121 v122 v123 v124 v125 v126 v127 v128 v129 v130 v131 v132 v133 v134 v135 v136 v137 v138 v139 v140 v141 v142 v143 v144 v145 v146 v147 v148 v149 v150 v151 v152 v153 v154 v155 v156 v157 v158 v159 v160 v161 v162 v163 v164 v165 v166 v167 v168 v169 v170 v171 v172 v173 v174 v175 v176 v177 v178 v179 v180 v181 v182 v183 v184 v185 v186 v187 v188 v189 v190 v191 v192 v193 v194 v195 v196 v197 v198 v199 v200 v201 v202 v203 v204 v205 v206 v207 v208 v209 w' ls' ms' h1 h2 => hQ v4 v10 v11 v12 v13 v14 v15 v16 _ _ _ _ _ _ _ _ _ _ _ _ _ _ _ _ _ _ _ _ _ _ _ _ v74 v75 v76 v77 v78 v79 v80 v81 v82 v83 v84 v85 v86 v87 v88 v89 v90 v91 v92 v93 v94 v95 v96 v97 v98 v99 v100 v101 v102 v103 v104 v105 v106 v107 v108 v109 v110 v111 v112 v113 v114 v115 v116 v117 v118 v119 v120 v121 v122 v123 v124 v125 v126 v127 v128 v129 v130 v131 v132 v133 v134 v135 v136 v137 v138 v139 v140 v141 v142 v143 v144 v145 v146 v147 v148 v149 v150 v151 v152 v153 v154 v155 v156 v157 v158 v159 v160 v161 v162 v163 v164 v165 v166 v167 v168 v169 v170 v171 v172 v173 v174 v175 v176 v177 v178 v179 v180 v181 v182 v183 v184 v185 v186 v187 v188 v189 v190 v191 v192 v193 v194 v195 v196 v197 v198 v199 v200 v201 v202 v203 v204 v205 v206 v207 v208 v209 w' ls' ms' h1 h2)
end Go.Proofs.YtjblehmafjcncaaDoor
