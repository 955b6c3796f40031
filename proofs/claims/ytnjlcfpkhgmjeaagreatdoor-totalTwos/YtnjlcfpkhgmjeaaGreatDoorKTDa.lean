import Derived.Test.YtnjlcfpkhgmjeaaGreatDoorKTOz
import Derived.Test.YtnjlcfpkhgmjeaaGreatDoorKU5
import Derived.Test.YtnjlcfpkhgmjeaaGreatDoorKZA
namespace Go.Proofs.YtnjlcfpkhgmjeaaGreatDoor
open Go.RowKit
theorem mul3_ (d : Int) (n n' : Bool) (m m' : Nat) (hm : m < 9218868437227405312) (hm' : m' < 9218868437227405312) (hd1 : -9223372036854775808 ≤ d) (hd2 : d < 9223372036854775808) (w : World) (hT : Tab w) (hQ : Fq.Tab w) : Calls Tryz.prog 11 #[.int .i64 d, .float .f64 (Fq.wD n m), .float .f64 (Fq.wD n' m')] w fun e w' => e = .returned (.float .f64 (mulW d (n ^^ n') (Fq.vV Ieee.double m * Fq.vV Ieee.double m'))) ∧ Kp w w' := by
  by_cases z : m = 0 ∨ m' = 0
  · have h0 : mulW d (n ^^ n') (Fq.vV Ieee.double m * Fq.vV Ieee.double m') = 0 := by
      unfold mulW
      refine if_pos (Nat.mul_eq_zero.2 ?_)
      rcases z with z | z
      · exact Or.inl ((vV_zero m).2 z)
      · exact Or.inr ((vV_zero m').2 z)
    rw [h0]
    have hp := Fq.plain_d (n ^^ n') 0 (by decide) w
    rw [show Fq.wD ((n ^^ n') && !((0 : Nat) == 0)) 0 = 0 from by simp; rfl] at hp
    exact pmulP_ d n n' m m' (by omega) (by omega) (fun h => by omega) w w (Fq.wD (n ^^ n') 0) 0 (run_float_arith w .mul 24 .f64 _ _ _ (mul_zero n n' m m' hm hm' z)) (Kp.refl _) hp
  · by_cases ct : (2580562586483294208 ≤ m ∧ m ≤ 6633802251116740608) ∧ (2580562586483294208 ≤ m' ∧ m' ≤ 6633802251116740608)
    · exact pmulQ_ d n n' m m' ct.1 ct.2 w
    · exact pmulE_ d n n' m m' hm hm' (fun h => z (Or.inl h)) (fun h => z (Or.inr h)) ct w hT hQ hd1 hd2
theorem fma3_ (K : Nat) (hK : K = 1074) (d : Int) (n n' nz : Bool) (m m' mz : Nat) (hm : m < 9218868437227405312) (hm' : m' < 9218868437227405312) (hmz : mz < 9218868437227405312) (hd1 : -9223372036854775808 ≤ d) (hd2 : d < 9223372036854775808) (w : World) (hT : Tab w) (hQ : Fq.Tab w) : Calls Tryz.prog 12 #[.int .i64 d, .float .f64 (Fq.wD n m), .float .f64 (Fq.wD n' m'), .float .f64 (Fq.wD nz mz)] w fun e w' => e = .returned (.float .f64 (fmaW d (Iv n m * Iv n' m' + Iv nz mz * ((2 ^ K : Nat) : Int)))) ∧ Kp w w' := by
  by_cases ct : (2580562586483294208 ≤ m ∧ m ≤ 6633802251116740608) ∧ (2580562586483294208 ≤ m' ∧ m' ≤ 6633802251116740608) ∧ mz ≤ 9110782046170513408
  · exact pfmaQ_ d n n' nz m m' mz ct.1 ct.2.1 ct.2.2 K hK w hT hQ hd1 hd2
  · exact pfmaE_ d n n' nz m m' mz hm hm' hmz ct K hK w hT hQ hd1 hd2
theorem vV_one (K : Nat) (hK : K = 1074) : Fq.vV Ieee.double 4607182418800017408 = 2 ^ K := by
  unfold Fq.vV Fq.mM Fq.eE
  rw [Fq.binD, if_neg (by decide), if_neg (by decide), show (4607182418800017408 : Nat) / 4503599627370496 - 1 = 1022 from by decide, show (4503599627370496 : Nat) + 4607182418800017408 % 4503599627370496 = 2 ^ 52 from by decide]
  obtain ⟨j, hj⟩ : ∃ j, j = 1022 := ⟨_, rfl⟩
  rw [← hj, ← Nat.pow_add, show 52 + j = K from by omega]
theorem xS_fin (n : Bool) (m : Nat) (hm : m < 9218868437227405312) : xS (Fq.wD n m) = 0 := by
  unfold xS tS
  rw [(wD_parts n m (by omega)).1, if_neg (by omega), if_neg (by omega)]
theorem yS_fin (n n' : Bool) (m m' : Nat) (hm : m < 9218868437227405312) (hm' : m' < 9218868437227405312) : yS (Fq.wD n m) (Fq.wD n' m') = 0 := by
  unfold yS
  rw [(wD_parts n m (by omega)).1, (wD_parts n' m' (by omega)).1, if_pos ⟨hm, hm'⟩]
theorem xV_fin (n : Bool) (m K : Nat) (hm : m < 9218868437227405312) : xV (Fq.wD n m) K = tV n m K := by
  unfold xV
  rw [(wD_parts n m (by omega)).1, (wD_parts n m (by omega)).2, if_pos hm]
theorem yV_fin (n n' : Bool) (m m' : Nat) (hm : m < 9218868437227405312) (hm' : m' < 9218868437227405312) : yV (Fq.wD n m) (Fq.wD n' m') = Iv n m * Iv n' m' := by
  unfold yV
  rw [(wD_parts n m (by omega)).1, (wD_parts n m (by omega)).2, (wD_parts n' m' (by omega)).1, (wD_parts n' m' (by omega)).2, if_pos ⟨hm, hm'⟩]
theorem two_sum (d : Int) (n n' : Bool) (m m' K : Nat) (hK : K = 1074) (hm : m < 9218868437227405312) (hm' : m' < 9218868437227405312) : rdW d (sumV K [Fq.wD n m, Fq.wD n' m']) (sumS [Fq.wD n m, Fq.wD n' m']) = sumW d (Iv n m + Iv n' m') := by
  have e : sumS [Fq.wD n m, Fq.wD n' m'] = 0 := by
    unfold sumS
    simp only [List.foldl]
    rw [xS_fin n m hm, xS_fin n' m' hm']; rfl
  rw [e]
  unfold rdW
  rw [if_pos rfl]
  simp only [sumV]
  rw [xV_fin n m K hm, xV_fin n' m' K hm', Int.add_zero, sum_fma d (Iv n m + Iv n' m') (tV n m K + tV n' m' K) K hK (by unfold tV; rw [Int.add_mul])]
theorem two_mul4 (d : Int) (n n' : Bool) (m m' : Nat) (hm : m < 9218868437227405312) (hm' : m' < 9218868437227405312) : rdW d (dotV [Fq.wD n m] [Fq.wD n' m']) (dotS [Fq.wD n m] [Fq.wD n' m']) = mulW d (n ^^ n') (Fq.vV Ieee.double m * Fq.vV Ieee.double m') := by
  have e : dotS [Fq.wD n m] [Fq.wD n' m'] = 0 := by
    unfold dotS
    simp only [List.zip_cons_cons, List.zip_nil_right, List.foldl]
    rw [yS_fin n n' m m' hm hm']; rfl
  rw [e]
  unfold rdW
  rw [if_pos rfl]
  simp only [dotV]
  rw [yV_fin n n' m m' hm hm', Int.add_zero]
  refine (mul_fma d _ _ _ ?_ ?_).symm
  · rw [Int.natAbs_mul]; unfold Iv; cases n <;> cases n' <;> simp
  · intro h
    have h1 : Fq.vV Ieee.double m ≠ 0 := fun z => h (by unfold Iv; rw [z]; cases n <;> simp)
    have h2 : Fq.vV Ieee.double m' ≠ 0 := fun z => h (by unfold Iv; rw [z]; cases n' <;> simp)
    have hp : (0 : Int) < ((Fq.vV Ieee.double m : Nat) : Int) * ((Fq.vV Ieee.double m' : Nat) : Int) := Int.mul_pos (by omega) (by omega)
    unfold Iv
    generalize ((Fq.vV Ieee.double m : Nat) : Int) = A at *
    generalize ((Fq.vV Ieee.double m' : Nat) : Int) = B at *
    cases n <;> cases n' <;> simp [Int.neg_mul, Int.mul_neg] <;> omega
theorem iv_one (K : Nat) (hK : K = 1074) : Iv false 4607182418800017408 = ((2 ^ K : Nat) : Int) := by
  unfold Iv
  rw [vV_one K hK]; rfl
theorem two_fma (d : Int) (n n' nz : Bool) (m m' mz K : Nat) (hK : K = 1074) (hm : m < 9218868437227405312) (hm' : m' < 9218868437227405312) (hmz : mz < 9218868437227405312) : rdW d (dotV [Fq.wD n m, Fq.wD nz mz] [Fq.wD n' m', 4607182418800017408]) (dotS [Fq.wD n m, Fq.wD nz mz] [Fq.wD n' m', 4607182418800017408]) = fmaW d (Iv n m * Iv n' m' + Iv nz mz * ((2 ^ K : Nat) : Int)) := by
  have ho : (4607182418800017408 : Nat) = Fq.wD false 4607182418800017408 := rfl
  have e : dotS [Fq.wD n m, Fq.wD nz mz] [Fq.wD n' m', 4607182418800017408] = 0 := by
    unfold dotS
    simp only [List.zip_cons_cons, List.zip_nil_right, List.foldl]
    rw [yS_fin n n' m m' hm hm', ho, yS_fin nz false mz _ hmz (by decide)]; rfl
  rw [e]
  unfold rdW
  rw [if_pos rfl]
  simp only [dotV]
  rw [yV_fin n n' m m' hm hm', ho, yV_fin nz false mz _ hmz (by decide), iv_one K hK, Int.add_zero]
theorem arr1 {w : World} {g a : Nat} (h : w.cell? ⟨g, 0, none⟩ = some (.float .f64 a)) : ArrF w (some ⟨g, 0, none⟩) [a] :=
  Or.inr ⟨g, 0, rfl, fun j hj => by
    have : j = 0 := by simp at hj; omega
    subst this; exact h⟩
theorem arr2 {w : World} {g a b : Nat} (h : w.cell? ⟨g, 0, none⟩ = some (.float .f64 a)) (h2 : w.cell? ⟨g, 1, none⟩ = some (.float .f64 b)) : ArrF w (some ⟨g, 0, none⟩) [a, b] :=
  Or.inr ⟨g, 0, rfl, fun j hj => by
    have : j = 0 ∨ j = 1 := by simp at hj; omega
    rcases this with rfl | rfl
    · exact h
    · exact h2⟩
theorem mem1 {a M : Nat} (h : a < M) : ∀ x ∈ [a], x < M := by simpa using h
theorem mem2 {a b M : Nat} (h : a < M) (h2 : b < M) : ∀ x ∈ [a, b], x < M := by simpa using ⟨h, h2⟩
theorem wD_lt4 (n : Bool) (m : Nat) (hm : m < 9218868437227405312) : Fq.wD n m < 18446744073709551616 := by unfold Fq.wD; cases n <;> simp <;> omega
set_option linter.unusedSimpArgs false
set_option maxRecDepth 20000 in
set_option maxHeartbeats 2000000 in
theorem ttwos_ (d : Int) (hd1 : -9223372036854775808 ≤ d) (hd2 : d < 9223372036854775808) (K : Nat) (hK : K = 1074) (x y z : Nat) (hx : x < 18446744073709551616) (hy : y < 18446744073709551616) (hz : z < 18446744073709551616) (w : World) (hT : Tab w) (hQ : Fq.Tab w) : Calls Tryz.prog 3 #[.int .i64 d, .agg #[.int .u64 (x : Int), .int .u64 (y : Int), .int .u64 (z : Int)]] w fun e w' => e = .returned (.bool true) ∧ Kp w w' := by
  obtain ⟨na, ma, ia, ea⟩ := Fq.exD (nmP x) (nmP_lt x hx)
  obtain ⟨nb, mb, ib, eb⟩ := Fq.exD (nmP y) (nmP_lt y hy)
  obtain ⟨nc, mc, ic, ec⟩ := Fq.exD (nmP z) (nmP_lt z hz)
  have fa := nmP_fin x
  have fb := nmP_fin y
  have fc := nmP_fin z
  rw [ea, (wD_parts na ma ia).1] at fa
  rw [eb, (wD_parts nb mb ib).1] at fb
  rw [ec, (wD_parts nc mc ic).1] at fc
  have hnx := number4_ x hx
  have hny := number4_ y hy
  have hnz := number4_ z hz
  rw [ea] at hnx
  rw [eb] at hny
  rw [ec] at hnz
  have hfa := fl4_ (Fq.wD na ma)
  have hfb := fl4_ (Fq.wD nb mb)
  have hfc := fl4_ (Fq.wD nc mc)
  have la := wD_lt4 na ma fa
  have lb := wD_lt4 nb mb fb
  have lc := wD_lt4 nc mc fc
  have hd1' := fun (W : World) (g g' : Nat) (h1 : W.cell? ⟨g, 0, none⟩ = some (.float .f64 (Fq.wD na ma))) (h2 : W.cell? ⟨g', 0, none⟩ = some (.float .f64 (Fq.wD nb mb))) (hT : Tab W) (hQ : Fq.Tab W) => dot_ d hd1 hd2 K hK (some ⟨g, 0, none⟩) (some ⟨g', 0, none⟩) 1 1 [Fq.wD na ma] [Fq.wD nb mb] (mem1 la) (mem1 lb) (by simp) rfl W (arr1 h1) (arr1 h2) hT hQ
  have hd2' := fun (W : World) (g g' : Nat) (h1 : W.cell? ⟨g, 0, none⟩ = some (.float .f64 (Fq.wD na ma))) (h1' : W.cell? ⟨g, 1, none⟩ = some (.float .f64 (Fq.wD nc mc))) (h2 : W.cell? ⟨g', 0, none⟩ = some (.float .f64 (Fq.wD nb mb))) (h2' : W.cell? ⟨g', 1, none⟩ = some (.float .f64 4607182418800017408)) (hT : Tab W) (hQ : Fq.Tab W) => dot_ d hd1 hd2 K hK (some ⟨g, 0, none⟩) (some ⟨g', 0, none⟩) 2 2 [Fq.wD na ma, Fq.wD nc mc] [Fq.wD nb mb, 4607182418800017408] (mem2 la lc) (mem2 lb (by decide)) (by simp) rfl W (arr2 h1 h1') (arr2 h2 h2') hT hQ
  have htt := fun (W : World) (g : Nat) (h1 : W.cell? ⟨g, 0, none⟩ = some (.float .f64 (Fq.wD na ma))) (h1' : W.cell? ⟨g, 1, none⟩ = some (.float .f64 (Fq.wD nb mb))) (hT : Tab W) (hQ : Fq.Tab W) => total_ d hd1 hd2 K hK (some ⟨g, 0, none⟩) 2 [Fq.wD na ma, Fq.wD nb mb] (mem2 la lb) (by simp) W (arr2 h1 h1') hT hQ
  have hb1 := bitsR4_ d (dotV [Fq.wD na ma] [Fq.wD nb mb]) (dotS [Fq.wD na ma] [Fq.wD nb mb])
  have hb2 := bitsR4_ d (dotV [Fq.wD na ma, Fq.wD nc mc] [Fq.wD nb mb, 4607182418800017408]) (dotS [Fq.wD na ma, Fq.wD nc mc] [Fq.wD nb mb, 4607182418800017408])
  have hb3 := bitsR4_ d (sumV K [Fq.wD na ma, Fq.wD nb mb]) (sumS [Fq.wD na ma, Fq.wD nb mb])
  rw [two_mul4 d na nb ma mb fa fb] at hb1 hd1'
  rw [two_fma d na nb nc ma mb mc K hK fa fb fc] at hb2 hd2'
  rw [two_sum d na nb ma mb K hK fa fb] at hb3 htt
  have hra := fun (W : World) (hT : Tab W) (hQ : Fq.Tab W) => paddF_ d na nb ma mb fa fb W hT hQ hd1 hd2
  have hrm := fun (W : World) (hT : Tab W) (hQ : Fq.Tab W) => mul3_ d na nb ma mb fa fb hd1 hd2 W hT hQ
  have hrf := fun (W : World) (hT : Tab W) (hQ : Fq.Tab W) => fma3_ K hK d na nb nc ma mb mc fa fb fc hd1 hd2 W hT hQ
  generalize mulW d (na ^^ nb) (Fq.vV Ieee.double ma * Fq.vV Ieee.double mb) = RM at *
  generalize fmaW d (Iv na ma * Iv nb mb + Iv nc mc * ((2 ^ K : Nat) : Int)) = RF at *
  generalize sumW d (Iv na ma + Iv nb mb) = RS at *
  generalize Fq.wD na ma = PA at *
  generalize Fq.wD nb mb = PB at *
  generalize Fq.wD nc mc = PC at *
  clear hK hd1 hd2 hx hy hz ia ib ic ea eb ec fa fb fc la lb lc
  have kw : Kp w (w.alloc (.cells #[.int .u64 (x : Int), .int .u64 (y : Int), .int .u64 (z : Int)] 23)) := (Kp.refl w).alloc _
  have q0 : (w.alloc (.cells #[.int .u64 (x : Int), .int .u64 (y : Int), .int .u64 (z : Int)] 23)).cell? ⟨w.heap.size, 0, none⟩ = some (.int .u64 (x : Int)) := by simp [go_sem]
  have q1 : (w.alloc (.cells #[.int .u64 (x : Int), .int .u64 (y : Int), .int .u64 (z : Int)] 23)).cell? ⟨w.heap.size, 1, none⟩ = some (.int .u64 (y : Int)) := by simp [go_sem]
  have q2 : (w.alloc (.cells #[.int .u64 (x : Int), .int .u64 (y : Int), .int .u64 (z : Int)] 23)).cell? ⟨w.heap.size, 2, none⟩ = some (.int .u64 (z : Int)) := by simp [go_sem]
  go_enter Tryz.func3, Tryz.ntmps3
  go_wp2_with fail
  refine (hnx _).mono ?_
  rintro e w' ⟨rfl, hw'⟩
  obtain rfl := hw'.symm
  clear hw'
  go_wp2_with fail
  refine (hfa _).mono ?_
  rintro e w' ⟨rfl, hw'⟩
  obtain rfl := hw'.symm
  clear hw'
  go_wp2_with fail
  refine (hny _).mono ?_
  rintro e w' ⟨rfl, hw'⟩
  obtain rfl := hw'.symm
  clear hw'
  go_wp2_with fail
  refine (hfb _).mono ?_
  rintro e w' ⟨rfl, hw'⟩
  obtain rfl := hw'.symm
  clear hw'
  go_wp2_with fail
  refine (hnz _).mono ?_
  rintro e w' ⟨rfl, hw'⟩
  obtain rfl := hw'.symm
  clear hw'
  go_wp2_with fail
  refine (hfc _).mono ?_
  rintro e w' ⟨rfl, hw'⟩
  obtain rfl := hw'.symm
  clear hw'
  go_wp2_with fail
  have k1 := ((kw.alloc (.cells #[.float .f64 PA] 24)).alloc (.cells #[.float .f64 PB] 24))
  refine (hd1' _ _ _ (by simp [go_sem, World.cell?_alloc_past]) (by simp [go_sem, World.cell?_alloc_past]) (hT.grown k1) (Fq.Tab.grown hQ k1)).mono ?_
  rintro e w1 ⟨rfl, g⟩
  replace kw := k1.trans g
  clear g k1 q0 q1 q2
  go_wp2_with fail
  have k1 := ((kw.alloc (.cells #[.float .f64 PA, .float .f64 PC] 24)).alloc (.cells #[.float .f64 PB, .float .f64 4607182418800017408] 24))
  refine (hd2' _ _ _ (by simp [go_sem, World.cell?_alloc_past]) (by simp [go_sem, World.cell?_alloc_past]) (by simp [go_sem, World.cell?_alloc_past]) (by simp [go_sem, World.cell?_alloc_past]) (hT.grown k1) (Fq.Tab.grown hQ k1)).mono ?_
  rintro e w2 ⟨rfl, g⟩
  replace kw := k1.trans g
  clear g k1
  go_wp2_with fail
  have k1 := kw.alloc (.cells #[.float .f64 PA, .float .f64 PB] 24)
  refine (htt _ _ (by simp [go_sem, World.cell?_alloc_past]) (by simp [go_sem, World.cell?_alloc_past]) (hT.grown k1) (Fq.Tab.grown hQ k1)).mono ?_
  rintro e w3 ⟨rfl, g⟩
  replace kw := k1.trans g
  clear g k1
  go_wp2_with fail
  refine (hb3 _).mono ?_
  rintro e w' ⟨rfl, hw'⟩
  obtain rfl := hw'.symm
  clear hw'
  go_wp2_with fail
  refine (hra _ (hT.grown kw) (Fq.Tab.grown hQ kw)).mono ?_
  rintro e w9 ⟨rfl, g⟩
  replace kw := kw.trans g
  clear g
  go_wp2_with fail
  refine (hb3 _).mono ?_
  rintro e w' ⟨rfl, hw'⟩
  obtain rfl := hw'.symm
  clear hw'
  go_wp2_with fail
  refine (hb1 _).mono ?_
  rintro e w' ⟨rfl, hw'⟩
  obtain rfl := hw'.symm
  clear hw'
  go_wp2_with fail
  refine (hrm _ (hT.grown kw) (Fq.Tab.grown hQ kw)).mono ?_
  rintro e w9 ⟨rfl, g⟩
  replace kw := kw.trans g
  clear g
  go_wp2_with fail
  refine (hb1 _).mono ?_
  rintro e w' ⟨rfl, hw'⟩
  obtain rfl := hw'.symm
  clear hw'
  go_wp2_with fail
  refine (hb2 _).mono ?_
  rintro e w' ⟨rfl, hw'⟩
  obtain rfl := hw'.symm
  clear hw'
  go_wp2_with fail
  refine (hrf _ (hT.grown kw) (Fq.Tab.grown hQ kw)).mono ?_
  rintro e w9 ⟨rfl, g⟩
  replace kw := kw.trans g
  clear g
  go_wp2_with fail
  refine (hb2 _).mono ?_
  rintro e w' ⟨rfl, hw'⟩
  obtain rfl := hw'.symm
  clear hw'
  go_wp2_with fail
  refine (lives_ _ (hT.grown kw) (Fq.Tab.grown hQ kw)).mono ?_
  rintro e w4 ⟨rfl, g⟩
  go_wp2
  exact bodyPost_ret (v := .bool true) (by simp [results, Tryz.results3, go_sem]) rfl ⟨rfl, kw.trans g⟩
end Go.Proofs.YtnjlcfpkhgmjeaaGreatDoor
