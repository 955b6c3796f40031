import Derived.Test.YtjkbapnndoldgaaKSHb
namespace Go.Proofs.Ytjkbapnndoldgaa
open Go.RowKit
set_option linter.unusedVariables false
set_option maxRecDepth 20000 in
set_option maxHeartbeats 1000000 in
theorem inL_ (a b : Nat) (w : World) : Calls Try.prog 14 #[.agg #[.int .u64 ((a : Nat) : Int), .int .u64 ((b : Nat) : Int)]] w fun e w' => e = .returned (.agg #[.float .f64 a, .float .f64 b]) ∧ Kp w w' := by
  have h1 := Fq.ff64 a
  have h2 := Fq.ff64 b
  generalize (a : Int) = X at h1 ⊢
  generalize (b : Int) = Y at h2 ⊢
  go_enter Try.func14, Try.ntmps14
  go_wp2
  go_region_held3 (fun w' => w'.cell? ⟨w.heap.size, 0, none⟩ = some (.int .u64 X) ∧ w'.cell? ⟨w.heap.size, 1, none⟩ = some (.int .u64 Y)) (simp [go_sem]) (fail)
  go_wp2
  exact bodyPost_ret (v := .agg #[.float .f64 a, .float .f64 b]) (by simp [results, Try.results14, go_sem]) rfl ⟨rfl, (by repeat (with_reducible (first | assumption | exact Kp.refl _ | apply Kp.drew | apply Kp.alloc | apply Kp.drewN | (refine Kp.setCell ?_ (by first | omega | (simp <;> omega)) _) | (refine Kp.trans ?_ (by assumption)))))⟩
set_option maxRecDepth 20000 in
set_option maxHeartbeats 1000000 in
theorem outL_ (a b : Nat) (w : World) : Calls Try.prog 16 #[.agg #[.float .f64 a, .float .f64 b]] w fun e w' => e = .returned (.agg #[.int .u64 ((a : Nat) : Int), .int .u64 ((b : Nat) : Int)]) ∧ Kp w w' := by
  have h1 := Fq.fb64 a
  have h2 := Fq.fb64 b
  generalize (a : Int) = X at h1 ⊢
  generalize (b : Int) = Y at h2 ⊢
  go_enter Try.func16, Try.ntmps16
  go_wp2
  go_region_held3 (fun w' => w'.cell? ⟨w.heap.size, 0, none⟩ = some (.float .f64 a) ∧ w'.cell? ⟨w.heap.size, 1, none⟩ = some (.float .f64 b)) (simp [go_sem, World.cell?_alloc_past]) (fail)
  go_wp2
  exact bodyPost_ret (v := .agg #[.int .u64 X, .int .u64 Y]) (by simp [results, Try.results16, go_sem]) rfl ⟨rfl, (by repeat (with_reducible (first | assumption | exact Kp.refl _ | apply Kp.drew | apply Kp.alloc | apply Kp.drewN | (refine Kp.setCell ?_ (by first | omega | (simp <;> omega)) _) | (refine Kp.trans ?_ (by assumption)))))⟩
theorem fb32_ (x : Nat) (w : World) : (callFunc 30 #[.float .f32 x]).run Try.prog w = .ok (.value (.int .u32 (x : Int))) w := by kernel_rfl
theorem ff32_ (x : Nat) (w : World) : (callFunc 32 #[.int .u32 (x : Int)]).run Try.prog w = .ok (.value (.float .f32 x)) w := by kernel_rfl
set_option maxRecDepth 20000 in
set_option maxHeartbeats 1000000 in
theorem inS_ (a b : Nat) (w : World) : Calls Try.prog 9 #[.agg #[.int .u32 ((a : Nat) : Int), .int .u32 ((b : Nat) : Int)]] w fun e w' => e = .returned (.agg #[.float .f32 a, .float .f32 b]) ∧ Kp w w' := by
  have h1 := ff32_ a
  have h2 := ff32_ b
  generalize (a : Int) = X at h1 ⊢
  generalize (b : Int) = Y at h2 ⊢
  go_enter Try.func9, Try.ntmps9
  go_wp2
  go_region_held3 (fun w' => w'.cell? ⟨w.heap.size, 0, none⟩ = some (.int .u32 X) ∧ w'.cell? ⟨w.heap.size, 1, none⟩ = some (.int .u32 Y)) (simp [go_sem]) (fail)
  go_wp2
  exact bodyPost_ret (v := .agg #[.float .f32 a, .float .f32 b]) (by simp [results, Try.results9, go_sem]) rfl ⟨rfl, (by repeat (with_reducible (first | assumption | exact Kp.refl _ | apply Kp.drew | apply Kp.alloc | apply Kp.drewN | (refine Kp.setCell ?_ (by first | omega | (simp <;> omega)) _) | (refine Kp.trans ?_ (by assumption)))))⟩
set_option maxRecDepth 20000 in
set_option maxHeartbeats 1000000 in
theorem outS_ (a b : Nat) (w : World) : Calls Try.prog 7 #[.agg #[.float .f32 a, .float .f32 b]] w fun e w' => e = .returned (.agg #[.int .u32 ((a : Nat) : Int), .int .u32 ((b : Nat) : Int)]) ∧ Kp w w' := by
  have h1 := fb32_ a
  have h2 := fb32_ b
  generalize (a : Int) = X at h1 ⊢
  generalize (b : Int) = Y at h2 ⊢
  go_enter Try.func7, Try.ntmps7
  go_wp2
  go_region_held3 (fun w' => w'.cell? ⟨w.heap.size, 0, none⟩ = some (.float .f32 a) ∧ w'.cell? ⟨w.heap.size, 1, none⟩ = some (.float .f32 b)) (simp [go_sem, World.cell?_alloc_past]) (fail)
  go_wp2
  exact bodyPost_ret (v := .agg #[.int .u32 X, .int .u32 Y]) (by simp [results, Try.results7, go_sem]) rfl ⟨rfl, (by repeat (with_reducible (first | assumption | exact Kp.refl _ | apply Kp.drew | apply Kp.alloc | apply Kp.drewN | (refine Kp.setCell ?_ (by first | omega | (simp <;> omega)) _) | (refine Kp.trans ?_ (by assumption)))))⟩
set_option maxRecDepth 20000 in
set_option maxHeartbeats 1000000 in
theorem ofS_14 (a b : Nat) (w : World) : Calls Try.prog 25 #[.float .f32 a, .float .f32 b] w fun e w' => e = .returned (.agg #[.float .f32 a, .float .f32 b]) ∧ Kp w w' := by
  go_enter Try.func25, Try.ntmps25
  go_wp2
  exact bodyPost_ret (v := .agg #[.float .f32 a, .float .f32 b]) (by simp [results, Try.results25, go_sem]) rfl ⟨rfl, (by repeat (with_reducible (first | assumption | exact Kp.refl _ | apply Kp.drew | apply Kp.alloc | apply Kp.drewN | (refine Kp.setCell ?_ (by first | omega | (simp <;> omega)) _) | (refine Kp.trans ?_ (by assumption)))))⟩

def H6 (w : World) (B : Nat) (a b c d e f : Value) : Prop := Fq.H2 w B a b ∧ Fq.H2 w (B + 1) c d ∧ Fq.H2 w (B + 2) e f
theorem H6.keep {W w : World} {B : Nat} {a b c d e f : Value} (h : H6 W B a b c d e f) (g : Kp W w) : H6 w B a b c d e f := ⟨Fq.H2.keep h.1 g, Fq.H2.keep h.2.1 g, Fq.H2.keep h.2.2 g⟩
theorem H6.new (w : World) (a b c d e f : Value) (s t u : TypeId) : H6 (((w.alloc (.cells #[a, b] s)).alloc (.cells #[c, d] t)).alloc (.cells #[e, f] u)) w.heap.size a b c d e f := by
  refine ⟨?_, ?_, ?_⟩ <;> (unfold Fq.H2; simp [go_sem])
theorem H6.put {w : World} {B : Nat} {a b c d e f : Value} (h : H6 w B a b c d e f) (a' b' c' d' : Value) : H6 ((((w.setCell ⟨B, 0, none⟩ a').setCell ⟨B, 1, none⟩ b').setCell ⟨B + 1, 0, none⟩ c').setCell ⟨B + 1, 1, none⟩ d') B a' b' c' d' e f := by
  refine ⟨?_, ?_, ?_⟩
  · exact Fq.H2.far (Fq.H2.put h.1 a' b') (by omega) c' d'
  · exact Fq.H2.put (Fq.H2.far h.2.1 (by omega) a' b') c' d'
  · exact Fq.H2.far (Fq.H2.far h.2.2 (by omega) a' b') (by omega) c' d'
set_option linter.unusedVariables false
set_option maxRecDepth 20000 in
set_option maxHeartbeats 4000000 in
theorem meetA_s_ (a b c d L1 H1 L2 H2 NL NH : Nat) (hx : ∀ w : World, Calls Try.prog 31 #[.agg #[.float .f32 a, .float .f32 b]] w fun e w' => e = .returned (.agg #[.float .f32 L1, .float .f32 H1]) ∧ Kp w w') (hy : ∀ w : World, Calls Try.prog 31 #[.agg #[.float .f32 c, .float .f32 d]] w fun e w' => e = .returned (.agg #[.float .f32 L2, .float .f32 H2]) ∧ Kp w w') (ZL ZH : Nat) (hm1 : ∀ (ts : Array TypeId) (t : TypeId) (w : World), (Builtin.max_ ts t #[.float .f32 L1, .float .f32 L2]).run Try.prog w = .ok (.float .f32 NL) w) (hm2 : ∀ (ts : Array TypeId) (t : TypeId) (w : World), (Builtin.min_ ts t #[.float .f32 H1, .float .f32 H2]).run Try.prog w = .ok (.float .f32 NH) w) (hz : ∀ w : World, Calls Try.prog 31 #[.agg #[.float .f32 NL, .float .f32 NH]] w fun e w' => e = .returned (.agg #[.float .f32 ZL, .float .f32 ZH]) ∧ Kp w w') (w : World) : Calls Try.prog 19 #[.agg #[.float .f32 a, .float .f32 b], .agg #[.float .f32 c, .float .f32 d]] w fun e w' => e = .returned (.agg #[.float .f32 ZL, .float .f32 ZH]) ∧ Kp w w' := by
    go_enter Try.func19, Try.ntmps19
    go_upto_region 1 with fail
    go_cut [] (fun wx => H6 wx w.heap.size (.float .f32 L1) (.float .f32 H1) (.float .f32 L2) (.float .f32 H2) (.float .f32 0) (.float .f32 0) ∧ Kp w wx)
    case first =>
      go_region_with (first | (go_at_call_of 31 (Value.agg #[.float .f32 a, .float .f32 b]); refine (hx _).mono ?_; rintro e wx ⟨rfl, gx⟩; first | (have kx := Kp.trans ky gx; have sx := H6.keep sy gx; obtain ⟨⟨p0, p1, p2, p3⟩, ⟨p4, p5, p6, p7⟩, ⟨p8, p9, pa, pb⟩⟩ := id sx) | (have kx : Kp w wx := Kp.trans ((((Kp.refl w).alloc _).alloc _).alloc _).drew gx; have sx := H6.keep (H6.new w (.float .f32 a) (.float .f32 b) (.float .f32 c) (.float .f32 d) (.float .f32 0) (.float .f32 0) 47 47 47) (Kp.trans (Kp.drew (Kp.refl _)) gx); obtain ⟨⟨p0, p1, p2, p3⟩, ⟨p4, p5, p6, p7⟩, ⟨p8, p9, pa, pb⟩⟩ := id sx)) | (go_at_call_of 31 (Value.agg #[.float .f32 c, .float .f32 d]); refine (hy _).mono ?_; rintro e wy ⟨rfl, gy⟩; first | (have ky := Kp.trans kx gy; have sy := H6.keep sx gy; obtain ⟨⟨p0, p1, p2, p3⟩, ⟨p4, p5, p6, p7⟩, ⟨p8, p9, pa, pb⟩⟩ := id sy) | (have ky : Kp w wy := Kp.trans ((((Kp.refl w).alloc _).alloc _).alloc _).drew gy; have sy := H6.keep (H6.new w (.float .f32 a) (.float .f32 b) (.float .f32 c) (.float .f32 d) (.float .f32 0) (.float .f32 0) 47 47 47) (Kp.trans (Kp.drew (Kp.refl _)) gy); obtain ⟨⟨p0, p1, p2, p3⟩, ⟨p4, p5, p6, p7⟩, ⟨p8, p9, pa, pb⟩⟩ := id sy)))
      all_goals (
        go_wp2_with fail
        go_meet
        first | (exact ⟨H6.put (id sy : H6 wy w.heap.size (.float .f32 a) (.float .f32 b) (.float .f32 c) (.float .f32 d) (.float .f32 0) (.float .f32 0)) (.float .f32 L1) (.float .f32 H1) (.float .f32 L2) (.float .f32 H2), (((ky.setCell (Nat.le_refl _) _).setCell (Nat.le_refl _) _).setCell (Nat.le_succ _) _).setCell (Nat.le_succ _) _⟩) | (exact ⟨H6.put (id sx : H6 wx w.heap.size (.float .f32 a) (.float .f32 b) (.float .f32 c) (.float .f32 d) (.float .f32 0) (.float .f32 0)) (.float .f32 L1) (.float .f32 H1) (.float .f32 L2) (.float .f32 H2), (((kx.setCell (Nat.le_refl _) _).setCell (Nat.le_refl _) _).setCell (Nat.le_succ _) _).setCell (Nat.le_succ _) _⟩))
    case rest =>
    obtain ⟨sw, kw⟩ := hcut
    obtain ⟨⟨p0, p1, p2, p3⟩, ⟨p4, p5, p6, p7⟩, ⟨p8, p9, pa, pb⟩⟩ := id sw
    go_wp2_with (first | (go_at_call_of 31 (Value.agg #[.float .f32 NL, .float .f32 NH]); refine (hz _).mono ?_; rintro e wv ⟨rfl, gv⟩; have kv := Kp.trans kw gv; have sv := H6.keep sw gv; obtain ⟨⟨u0, u1, u2, u3⟩, ⟨u4, u5, u6, u7⟩, ⟨u8, u9, ua, ub⟩⟩ := id sv))
    exact bodyPost_ret (v := .agg #[.float .f32 ZL, .float .f32 ZH]) (by simp [results, Try.results19, go_sem, u8, u9]) rfl ⟨rfl, (kv.setCell (by simp <;> omega) _).setCell (by simp <;> omega) _⟩
theorem meet_s9_ (a b c d : Nat) (L1 H1 L2 H2 : Int) (hx : Sg.Rd a b L1 H1) (hy : Sg.Rd c d L2 H2) (w : World) : Calls Try.prog 19 #[.agg #[.float .f32 a, .float .f32 b], .agg #[.float .f32 c, .float .f32 d]] w fun e w' => e = .returned (.agg #[.float .f32 (Sg.pw (Sg.iL L1 H1 L2 H2)), .float .f32 (Sg.pw (Sg.iH L1 H1 L2 H2))]) ∧ Kp w w' := by
  have e := Sg.read_meet L1 H1 L2 H2 hx.vd hy.vd
  have hz : ∀ w : World, Calls Try.prog 31 #[.agg #[.float .f32 (Sg.pw (max L1 L2)), .float .f32 (Sg.pw (min H1 H2))]] w fun e w' => e = .returned (.agg #[.float .f32 (Sg.pw (Sg.iL L1 H1 L2 H2)), .float .f32 (Sg.pw (Sg.iH L1 H1 L2 H2))]) ∧ Kp w w' := by
    intro w
    have g := read_s_ (Sg.pw (max L1 L2)) (Sg.pw (min H1 H2)) (Sg.pw_lt _ (Sg.bd_max _ _ hx.vd.lo hy.vd.lo)) (Sg.pw_lt _ (Sg.bd_min _ _ hx.vd.hi hy.vd.hi)) w
    rw [e.1, e.2] at g
    exact g
  exact meetA_s_ a b c d _ _ _ _ _ _ (fun w => by have g := read_s_ a b hx.1 hx.2.1 w; rw [hx.2.2.2.1, hx.2.2.2.2] at g; exact g) (fun w => by have g := read_s_ c d hy.1 hy.2.1 w; rw [hy.2.2.2.1, hy.2.2.2.2] at g; exact g) _ _ (Sg.max9_ L1 L2 hx.vd.lo hy.vd.lo) (Sg.min9_ H1 H2 hx.vd.hi hy.vd.hi) hz w
set_option maxRecDepth 20000 in
set_option maxHeartbeats 4000000 in
theorem hullA_s_ (a b c d L1 H1 L2 H2 NL NH : Nat) (hx : ∀ w : World, Calls Try.prog 31 #[.agg #[.float .f32 a, .float .f32 b]] w fun e w' => e = .returned (.agg #[.float .f32 L1, .float .f32 H1]) ∧ Kp w w') (hy : ∀ w : World, Calls Try.prog 31 #[.agg #[.float .f32 c, .float .f32 d]] w fun e w' => e = .returned (.agg #[.float .f32 L2, .float .f32 H2]) ∧ Kp w w') (hm1 : ∀ (ts : Array TypeId) (t : TypeId) (w : World), (Builtin.min_ ts t #[.float .f32 L1, .float .f32 L2]).run Try.prog w = .ok (.float .f32 NL) w) (hm2 : ∀ (ts : Array TypeId) (t : TypeId) (w : World), (Builtin.max_ ts t #[.float .f32 H1, .float .f32 H2]).run Try.prog w = .ok (.float .f32 NH) w) (w : World) : Calls Try.prog 21 #[.agg #[.float .f32 a, .float .f32 b], .agg #[.float .f32 c, .float .f32 d]] w fun e w' => e = .returned (.agg #[.float .f32 NL, .float .f32 NH]) ∧ Kp w w' := by
    go_enter Try.func21, Try.ntmps21
    go_upto_region 1 with fail
    go_cut [] (fun wx => H6 wx w.heap.size (.float .f32 L1) (.float .f32 H1) (.float .f32 L2) (.float .f32 H2) (.float .f32 0) (.float .f32 0) ∧ Kp w wx)
    case first =>
      go_region_with (first | (go_at_call_of 31 (Value.agg #[.float .f32 a, .float .f32 b]); refine (hx _).mono ?_; rintro e wx ⟨rfl, gx⟩; first | (have kx := Kp.trans ky gx; have sx := H6.keep sy gx; obtain ⟨⟨p0, p1, p2, p3⟩, ⟨p4, p5, p6, p7⟩, ⟨p8, p9, pa, pb⟩⟩ := id sx) | (have kx : Kp w wx := Kp.trans ((((Kp.refl w).alloc _).alloc _).alloc _).drew gx; have sx := H6.keep (H6.new w (.float .f32 a) (.float .f32 b) (.float .f32 c) (.float .f32 d) (.float .f32 0) (.float .f32 0) 47 47 47) (Kp.trans (Kp.drew (Kp.refl _)) gx); obtain ⟨⟨p0, p1, p2, p3⟩, ⟨p4, p5, p6, p7⟩, ⟨p8, p9, pa, pb⟩⟩ := id sx)) | (go_at_call_of 31 (Value.agg #[.float .f32 c, .float .f32 d]); refine (hy _).mono ?_; rintro e wy ⟨rfl, gy⟩; first | (have ky := Kp.trans kx gy; have sy := H6.keep sx gy; obtain ⟨⟨p0, p1, p2, p3⟩, ⟨p4, p5, p6, p7⟩, ⟨p8, p9, pa, pb⟩⟩ := id sy) | (have ky : Kp w wy := Kp.trans ((((Kp.refl w).alloc _).alloc _).alloc _).drew gy; have sy := H6.keep (H6.new w (.float .f32 a) (.float .f32 b) (.float .f32 c) (.float .f32 d) (.float .f32 0) (.float .f32 0) 47 47 47) (Kp.trans (Kp.drew (Kp.refl _)) gy); obtain ⟨⟨p0, p1, p2, p3⟩, ⟨p4, p5, p6, p7⟩, ⟨p8, p9, pa, pb⟩⟩ := id sy)))
      all_goals (
        go_wp2_with fail
        go_meet
        first | (exact ⟨H6.put (id sy : H6 wy w.heap.size (.float .f32 a) (.float .f32 b) (.float .f32 c) (.float .f32 d) (.float .f32 0) (.float .f32 0)) (.float .f32 L1) (.float .f32 H1) (.float .f32 L2) (.float .f32 H2), (((ky.setCell (Nat.le_refl _) _).setCell (Nat.le_refl _) _).setCell (Nat.le_succ _) _).setCell (Nat.le_succ _) _⟩) | (exact ⟨H6.put (id sx : H6 wx w.heap.size (.float .f32 a) (.float .f32 b) (.float .f32 c) (.float .f32 d) (.float .f32 0) (.float .f32 0)) (.float .f32 L1) (.float .f32 H1) (.float .f32 L2) (.float .f32 H2), (((kx.setCell (Nat.le_refl _) _).setCell (Nat.le_refl _) _).setCell (Nat.le_succ _) _).setCell (Nat.le_succ _) _⟩))
    case rest =>
    obtain ⟨sw, kw⟩ := hcut
    obtain ⟨⟨p0, p1, p2, p3⟩, ⟨p4, p5, p6, p7⟩, ⟨p8, p9, pa, pb⟩⟩ := id sw
    go_wp2
    exact bodyPost_ret (v := .agg #[.float .f32 NL, .float .f32 NH]) (by simp [results, Try.results21, go_sem, p8, p9]) rfl ⟨rfl, (kw.setCell (by simp <;> omega) _).setCell (by simp <;> omega) _⟩
theorem join_s9_ (a b c d : Nat) (L1 H1 L2 H2 : Int) (hx : Sg.Rd a b L1 H1) (hy : Sg.Rd c d L2 H2) (w : World) : Calls Try.prog 21 #[.agg #[.float .f32 a, .float .f32 b], .agg #[.float .f32 c, .float .f32 d]] w fun e w' => e = .returned (.agg #[.float .f32 (Sg.pw (min L1 L2)), .float .f32 (Sg.pw (max H1 H2))]) ∧ Kp w w' :=
  hullA_s_ a b c d _ _ _ _ _ _ (fun w => by have g := read_s_ a b hx.1 hx.2.1 w; rw [hx.2.2.2.1, hx.2.2.2.2] at g; exact g) (fun w => by have g := read_s_ c d hy.1 hy.2.1 w; rw [hy.2.2.2.1, hy.2.2.2.2] at g; exact g) (Sg.min9_ L1 L2 hx.vd.lo hy.vd.lo) (Sg.max9_ H1 H2 hx.vd.hi hy.vd.hi) w
end Go.Proofs.Ytjkbapnndoldgaa
