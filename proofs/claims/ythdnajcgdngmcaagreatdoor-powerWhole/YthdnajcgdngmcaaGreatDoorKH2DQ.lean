import Derived.Test.YthdnajcgdngmcaaGreatDoorKMR7Q
import Derived.Test.YthdnajcgdngmcaaGreatDoorKQJd
import Derived.Test.YthdnajcgdngmcaaGreatDoorKXA0
import Derived.Deep.DeepCutAuto
import Derived.Deep.RegionWith
import Derived.Laws.Cover1
import Derived.Laws.Small
namespace Go.Proofs.YthdnajcgdngmcaaGreatDoor
open Go.RowKit
set_option maxRecDepth 20000 in
set_option maxHeartbeats 400000 in
theorem minf_ (neg : Bool) (w : World) : Calls Tryz.prog 8 #[.int .i64 (if neg = true then -1 else 1)] w fun e w' => e = .returned (.float .f64 (Fq.wD neg 9218868437227405312)) ∧ w' = w := by
  have h1 : ∀ w : World, (callFunc 40 #[.int .u64 18442240474082181120]).run Tryz.prog w = .ok (.value (.float .f64 18442240474082181120)) w := fun w => Fq.ff64 18442240474082181120 w
  have h2 : ∀ w : World, (callFunc 40 #[.int .u64 9218868437227405312]).run Tryz.prog w = .ok (.value (.float .f64 9218868437227405312)) w := fun w => Fq.ff64 9218868437227405312 w
  cases neg
  · go_enter Tryz.func8, Tryz.ntmps8
    go_wp2
    exact bodyPost_ret (v := .float .f64 9218868437227405312) (by simp [results, Tryz.results8, go_sem]) rfl ⟨rfl, rfl⟩
  · go_enter Tryz.func8, Tryz.ntmps8
    go_wp2
    exact bodyPost_ret (v := .float .f64 18442240474082181120) (by simp [results, Tryz.results8, go_sem]) rfl ⟨rfl, rfl⟩
set_option maxRecDepth 20000 in
set_option maxHeartbeats 400000 in
theorem infD_false (w : World) : Calls Tryz.prog 171 #[.bool false] w fun e w' => e = .returned (.float .f64 (Fq.wD false 9218868437227405312)) ∧ w' = w := by
  have h := minf_ false w
  have h' : Calls Tryz.prog 8 #[.int .i64 (1)] w fun e w' => e = .returned (.float .f64 9218868437227405312) ∧ w' = w := h
  clear h
  go_enter Tryz.func171, Tryz.ntmps171
  go_wp2_with fail
  refine h'.mono ?_; rintro e w' ⟨rfl, hw'⟩; obtain rfl := hw'.symm; clear h' hw'
  go_wp2
  exact bodyPost_ret (v := .float .f64 9218868437227405312) (by simp [results, Tryz.results171, go_sem]) rfl ⟨rfl, rfl⟩
set_option maxRecDepth 20000 in
set_option maxHeartbeats 400000 in
theorem infD_true (w : World) : Calls Tryz.prog 171 #[.bool true] w fun e w' => e = .returned (.float .f64 (Fq.wD true 9218868437227405312)) ∧ w' = w := by
  have h := minf_ true w
  have h' : Calls Tryz.prog 8 #[.int .i64 (-1)] w fun e w' => e = .returned (.float .f64 18442240474082181120) ∧ w' = w := h
  clear h
  go_enter Tryz.func171, Tryz.ntmps171
  go_wp2_with fail
  refine h'.mono ?_; rintro e w' ⟨rfl, hw'⟩; obtain rfl := hw'.symm; clear h' hw'
  go_wp2
  exact bodyPost_ret (v := .float .f64 18442240474082181120) (by simp [results, Tryz.results171, go_sem]) rfl ⟨rfl, rfl⟩
theorem infD_ (neg : Bool) (w : World) : Calls Tryz.prog 171 #[.bool neg] w fun e w' => e = .returned (.float .f64 (Fq.wD neg 9218868437227405312)) ∧ w' = w := by
  cases neg
  · exact infD_false w
  · exact infD_true w
set_option maxRecDepth 20000 in
set_option maxHeartbeats 400000 in
theorem greDp_ (neg : Bool) (w : World) : Calls Tryz.prog 190 #[.bool neg] w fun e w' => e = .returned (.float .f64 (Fq.wD neg 9218868437227405311)) ∧ Fq.Grown w w' := by
  have h := infD_ neg w
  obtain ⟨Z, hZ⟩ : ∃ Z, Z = Fq.wD neg 9218868437227405312 := ⟨_, rfl⟩
  obtain ⟨Y, hY⟩ : ∃ Y, Y = Fq.wD neg 9218868437227405311 := ⟨_, rfl⟩
  cases neg
  · have hd := Fq.dn_d false 9218868437227405312 (by decide) (by decide) w
    rw [show Fq.fD (Fq.plz false 9218868437227405312 - 1) = Fq.wD false 9218868437227405311 from rfl, ← hZ, ← hY] at hd
    rw [← hZ] at h
    rw [← hY]
    clear hZ hY
    go_enter Tryz.func190, Tryz.ntmps190
    go_wp2_with fail
    refine h.mono ?_; rintro e w' ⟨rfl, hw'⟩; obtain rfl := hw'.symm; clear h hw'
    go_wp2_with fail
    refine hd.mono ?_; rintro e w1 ⟨rfl, hk⟩; clear hd
    go_wp2
    exact bodyPost_ret (v := .float .f64 Y) (by simp [results, Tryz.results190, go_sem]) rfl ⟨rfl, hk⟩
  · have hd := Fq.up_d true 9218868437227405312 (by decide) (by decide) w
    rw [show Fq.fD (Fq.plz true 9218868437227405312 + 1) = Fq.wD true 9218868437227405311 from rfl, ← hZ, ← hY] at hd
    rw [← hZ] at h
    rw [← hY]
    clear hZ hY
    go_enter Tryz.func190, Tryz.ntmps190
    go_wp2_with fail
    refine h.mono ?_; rintro e w' ⟨rfl, hw'⟩; obtain rfl := hw'.symm; clear h hw'
    go_wp2_with fail
    refine hd.mono ?_; rintro e w1 ⟨rfl, hk⟩; clear hd
    go_wp2
    exact bodyPost_ret (v := .float .f64 Y) (by simp [results, Tryz.results190, go_sem]) rfl ⟨rfl, hk⟩
set_option maxRecDepth 20000 in
set_option maxHeartbeats 400000 in
theorem fmtD_ (w : World) : Calls Tryz.prog 186 #[] w fun e w' => e = .returned (.tuple #[.int .i64 53, .int .i64 (-1074)]) ∧ Fq.Grown w w' := by
  have h1 := Fq.split_d false 4607182418800017408 (by decide)
  have h0 := Fq.split_d false 0 (by decide)
  rw [show Fq.wD false 4607182418800017408 = 4607182418800017408 from rfl, show (false && !(4607182418800017408 == 0)) = false from rfl, show (((Fq.sgD 4607182418800017408 : Nat) : Int)) = 4503599627370496 from by decide +kernel] at h1
  rw [show Fq.wD false 0 = 0 from rfl, show (false && !(0 == 0)) = false from rfl, show Fq.epD 0 = -1074 from by decide +kernel] at h0
  obtain ⟨e1, he1⟩ : ∃ e1, e1 = Fq.epD 4607182418800017408 := ⟨_, rfl⟩
  obtain ⟨s0, hs0⟩ : ∃ s0 : Int, s0 = ((Fq.sgD 0 : Nat) : Int) := ⟨_, rfl⟩
  rw [← he1] at h1
  rw [← hs0] at h0
  have hl := Fq.len64_ 4503599627370496 (by decide) (by decide)
  rw [show ((Lib.bitLen (4503599627370496 : Int).toNat : Nat) : Int) = 53 from by decide +kernel] at hl
  have c1 : floatOfInt .f64 1 = 4607182418800017408 := by decide +kernel
  have c0 : floatOfInt .f64 0 = 0 := by decide +kernel
  clear he1 hs0
  go_enter Tryz.func186, Tryz.ntmps186
  go_wp2_with fail
  refine (h1 _).mono ?_; rintro e w1 ⟨rfl, hk⟩; clear h1
  go_wp2_with fail
  refine (h0 _).mono ?_; rintro e w2 ⟨rfl, hk2⟩; clear h0
  have hk3 := Fq.gtrans hk hk2
  have hl2 := hl w2
  clear hl hk hk2
  go_wp2_with fail
  refine hl2.mono ?_; rintro e w' ⟨rfl, hw'⟩; obtain rfl := hw'.symm; clear hl2 hw'
  go_wp2
  exact bodyPost_ret (v := .tuple #[.int .i64 53, .int .i64 (-1074)]) (by simp [results, Tryz.results186, go_sem]) rfl ⟨rfl, hk3⟩

structure Rs where
  l1 : List Int
  l2 : List Int
  W : Int
  Z : Int
  B : Bool
  E : Int
structure Out (w : World) (base : Nat) (r : Rs) (p1 : Option Addr) (c1 : Nat) (p2 : Option Addr) (c2 : Nat) : Prop where
  o1 : Own w base (.slice p1 r.l1.length c1) r.l1
  o2 : Own w base (.slice p2 r.l2.length c2) r.l2
  ne : ∀ g, p1 = some ⟨g, 0, none⟩ → p2 ≠ some ⟨g, 0, none⟩
theorem Out.grown {w w' : World} {base : Nat} {r : Rs} {p1 p2 : Option Addr} {c1 c2 : Nat} (h : Out w base r p1 c1 p2 c2) (k : Kp w w') : Out w' base r p1 c1 p2 c2 := ⟨h.o1.kp k, h.o2.kp k, h.ne⟩
theorem Rw.all {w : World} {g n : Nat} {xs : List Int} (h : Rw w g n xs) (hn : xs.length = n) : Arr w (some ⟨g, 0, none⟩) xs := by
  refine Or.inr ⟨g, 0, rfl, fun j hj => ?_⟩
  rw [Nat.zero_add]
  exact World.rowIs.cell h (by omega)
theorem Rw.kb {w w' : World} {a g n : Nat} {xs : List Int} (h : Rw w g n xs) (k : Kb a w w') (hne : g ≠ a) : Rw w' g n xs := World.rowIs.of_block h (k.2.2.2.2 g (World.rowIs.lt h) hne)
theorem Own.kb {w w' : World} {a base : Nat} {v : Value} {xs : List Int} (h : Own w base v xs) (k : Kb a w w') (hne : ∀ g, v.ownBlock = some g → g ≠ a) : Own w' base v xs := by
  refine ⟨h.1, ?_⟩
  rcases h.2 with h' | ⟨g, cap, cur, h1, h2, h3, h4, h5, h6, h7⟩
  · exact Or.inl h'
  · have hlt : g < w.heap.size := by
      by_cases c : g < w.heap.size
      · exact c
      · rw [Array.getElem?_eq_none (by simpa using c)] at h3; cases h3
    exact Or.inr ⟨g, cap, cur, h1, h2, by rw [k.2.2.2.2 g hlt (hne g (by rw [h1]; rfl))]; exact h3, h4, h5, h6, h7⟩
structure Cs (w : World) (b : Nat) (r : Rs) (p1 : Option Addr) (c1 : Nat) (p2 : Option Addr) (c2 : Nat) : Prop where
  c0 : w.cell? ⟨b, 0, none⟩ = some (.slice p1 r.l1.length c1)
  c1 : w.cell? ⟨b, 1, none⟩ = some (.slice p2 r.l2.length c2)
  c2 : w.cell? ⟨b, 2, none⟩ = some (.int .u64 r.W)
  c3 : w.cell? ⟨b, 3, none⟩ = some (.int .i64 r.Z)
  c4 : w.cell? ⟨b, 4, none⟩ = some (.bool r.B)
  c5 : w.cell? ⟨b, 5, none⟩ = some (.int .i64 r.E)
theorem Cs.grown {w w' : World} {b : Nat} {r : Rs} {p1 p2 : Option Addr} {c1 c2 : Nat} (h : Cs w b r p1 c1 p2 c2) (k : Kp w w') : Cs w' b r p1 c1 p2 c2 := ⟨kkeep k h.c0, kkeep k h.c1, kkeep k h.c2, kkeep k h.c3, kkeep k h.c4, kkeep k h.c5⟩
theorem Cs.kb {w w' : World} {a b : Nat} {r : Rs} {p1 p2 : Option Addr} {c1 c2 : Nat} (h : Cs w b r p1 c1 p2 c2) (k : Kb a w w') (hne : b ≠ a) : Cs w' b r p1 c1 p2 c2 := ⟨k.arr hne h.c0, k.arr hne h.c1, k.arr hne h.c2, k.arr hne h.c3, k.arr hne h.c4, k.arr hne h.c5⟩
def Bd (lo hi : Nat) (p1 p2 : Option Addr) : Prop := ∀ g, p1 = some ⟨g, 0, none⟩ ∨ p2 = some ⟨g, 0, none⟩ → lo ≤ g ∧ g < hi
theorem own_p {p : Option Addr} {n c g : Nat} {w : World} {base : Nat} {xs : List Int} (h : Own w base (.slice p n c) xs) (hg : (Value.slice p n c).ownBlock = some g) : p = some ⟨g, 0, none⟩ := by
  rcases h.2 with ⟨h', _⟩ | ⟨g', cap, cur, h1, _⟩
  · rw [h'] at hg; cases hg
  · cases h1; cases hg; rfl
theorem Out.bd {w : World} {base : Nat} {r : Rs} {p1 p2 : Option Addr} {c1 c2 : Nat} (h : Out w base r p1 c1 p2 c2) : Bd base w.heap.size p1 p2 := by
  intro g hg
  rcases hg with rfl | rfl
  · exact h.o1.lt g rfl
  · exact h.o2.lt g rfl
theorem Out.kb {w w' : World} {a base lo hi : Nat} {r : Rs} {p1 p2 : Option Addr} {c1 c2 : Nat} (h : Out w base r p1 c1 p2 c2) (k : Kb a w w') (b : Bd lo hi p1 p2) (ha : a < lo ∨ hi ≤ a) : Out w' base r p1 c1 p2 c2 :=
  ⟨h.o1.kb k (fun g hg => by have := b g (Or.inl (own_p h.o1 hg)); omega), h.o2.kb k (fun g hg => by have := b g (Or.inr (own_p h.o2 hg)); omega), h.ne⟩
set_option maxRecDepth 20000 in
set_option maxHeartbeats 1000000 in
theorem trim_ (p : Option Addr) (c : Nat) (xs : List Int) (w : World) (hx : Arr w p xs) (lx : xs.length ≤ 1099511627776) (hc : xs.length ≤ c) :
    Calls Tryz.prog 162 #[.slice p xs.length c] w fun e w' => e = .returned (.slice p (tl xs) c) ∧ w' = w := by
  obtain ⟨N, hN⟩ : ∃ N, N = xs.length := ⟨_, rfl⟩
  rw [← hN] at lx hc ⊢
  have HX : Hid (Arr w p xs) := hx
  have HN : Hid (N = xs.length) := hN
  obtain ⟨T, hT⟩ : ∃ T, T = tl xs := ⟨_, rfl⟩
  rw [← hT]
  have HT : Hid (tlAux xs N = T) := by rw [hT, hN]; exact rfl
  have hT2 : T ≤ N := by rw [hT, hN]; exact tl_le xs
  clear hN hx hT
  go_enter Tryz.func162, Tryz.ntmps162
  go_wp2
  go_loop [3] (fun i => ∃ k : Nat, i = .int .i64 k ∧ k ≤ N ∧ tlAux xs k = T) (fun i => (intOf i).toNat)
  case atStart => exact ⟨N, rfl, Nat.le_refl _, HT.out⟩
  case round =>
    obtain ⟨k, rfl, hk, ht⟩ := hrel
    have hN := HN.out
    rcases k with _ | k
    · have hT0 : T = 0 := by rw [← ht]; rfl
      subst hT0
      clear hN HN HX HT ht hk
      go_wp2
      exact bodyPost_ret (v := .slice p 0 c) (by simp [results, Tryz.results162, go_sem] <;> simp only [*]) rfl ⟨rfl, rfl⟩
    · obtain ⟨b, off, rfl, hc'⟩ := HX.out.at (k := k) (by omega)
      have e1 := hc' k (by omega)
      have f1 : (((k + 1 : Nat) : Int) - 1) = (k : Int) := by omega
      by_cases cz : xs.getD k 0 = 0
      · rw [tlAux_zero xs k cz] at ht
        rw [cz] at e1
        clear hN HN HX HT hc'
        go_wp2
        exact ⟨⟨k, by go_num, by omega, ht⟩, by simp [intOf]⟩
      · rw [tlAux_nz xs k cz] at ht
        subst ht
        obtain ⟨X, hX⟩ : ∃ X, X = xs.getD k 0 := ⟨_, rfl⟩
        rw [← hX] at e1 cz
        have t1 : (X == 0) = false := by simp [cz]
        clear hN HN HX HT hc' hX cz
        go_wp2
        exact bodyPost_ret (v := .slice (some ⟨b, off, none⟩) (k + 1) c) (by simp [results, Tryz.results162, go_sem] <;> simp only [*]) rfl ⟨rfl, rfl⟩
set_option maxRecDepth 20000 in
set_option maxHeartbeats 400000 in
theorem add32_ (x y c : Int) (hx : 0 ≤ x ∧ x < 4294967296) (hy : 0 ≤ y ∧ y < 4294967296) (hc : 0 ≤ c ∧ c < 4294967296) (w : World) :
    Calls Tryz.prog 219 #[.int .u32 x, .int .u32 y, .int .u32 c] w fun e w' => e = .returned (.tuple #[.int .u32 ((x + y + c) % 4294967296), .int .u32 ((x + y + c) / 4294967296)]) ∧ w' = w := by
  have f1 : IntKind.u64.wrap x = x := by rw [IntKind.wrap_u64]; omega
  have f2 : IntKind.u64.wrap y = y := by rw [IntKind.wrap_u64]; omega
  have f3 : IntKind.u64.wrap c = c := by rw [IntKind.wrap_u64]; omega
  have f4 : IntKind.u64.wrap (x + y) = x + y := by rw [IntKind.wrap_u64]; omega
  have f5 : IntKind.u64.wrap (x + y + c) = x + y + c := by rw [IntKind.wrap_u64]; omega
  have f6 : IntKind.u32.wrap (x + y + c) = (x + y + c) % 4294967296 := by rw [IntKind.wrap_u32]
  have f7 : IntKind.u32.wrap ((x + y + c) / 4294967296) = (x + y + c) / 4294967296 := by rw [IntKind.wrap_u32]; omega
  clear hx hy hc
  go_enter Tryz.func219, Tryz.ntmps219
  go_wp2
  exact bodyPost_ret (v := .tuple #[.int .u32 ((x + y + c) % 4294967296), .int .u32 ((x + y + c) / 4294967296)]) (by simp [results, Tryz.results219, go_sem] <;> simp only [*]) rfl ⟨rfl, rfl⟩
set_option maxRecDepth 20000 in
set_option maxHeartbeats 400000 in
theorem tooLong_ (p : Option Addr) (m c : Nat) (w : World) : Calls Tryz.prog 163 #[.slice p m c] w fun e w' => e = .returned (.bool (decide (16384 < m))) ∧ w' = w := by
  go_enter Tryz.func163, Tryz.ntmps163
  go_wp2
  have h : decide ((16384 : Int) < (m : Int)) = decide (16384 < m) := by by_cases d : 16384 < m <;> simp [d] <;> omega
  exact bodyPost_ret (v := .bool (decide (16384 < m))) (by simp [results, Tryz.results163, go_sem] <;> omega) rfl ⟨rfl, rfl⟩
set_option maxRecDepth 20000 in
set_option maxHeartbeats 400000 in
theorem unlessLong_ (p : Option Addr) (m c : Nat) (w : World) : Calls Tryz.prog 164 #[.slice p m c] w fun e w' => e = .returned (if 16384 < m then .tuple #[.slice none 0 0, .int .i64 2] else .tuple #[.slice p m c, .int .i64 0]) ∧ w' = w := by
  have h := tooLong_ p m c
  by_cases d : 16384 < m
  · rw [decide_eq_true d] at h
    rw [if_pos d]
    clear d
    go_enter Tryz.func164, Tryz.ntmps164
    go_wp2_with (first | (go_at_call 163; refine (h _).mono ?_; rintro e w' ⟨rfl, rfl⟩))
    exact bodyPost_ret (v := .tuple #[.slice none 0 0, .int .i64 2]) (by simp [results, Tryz.results164, go_sem] <;> simp only [*]) rfl ⟨rfl, rfl⟩
  · rw [decide_eq_false d] at h
    rw [if_neg d]
    clear d
    go_enter Tryz.func164, Tryz.ntmps164
    go_wp2_with (first | (go_at_call 163; refine (h _).mono ?_; rintro e w' ⟨rfl, rfl⟩))
    exact bodyPost_ret (v := .tuple #[.slice p m c, .int .i64 0]) (by simp [results, Tryz.results164, go_sem] <;> simp only [*]) rfl ⟨rfl, rfl⟩
def Ls (w : World) (v : Value) (L : List Int) : Prop := ∃ p c, v = .slice p L.length c ∧ Arr w p L ∧ L.length ≤ c
theorem Ls.kp {w w' : World} {v : Value} {L : List Int} (h : Ls w v L) (k : Kp w w') : Ls w' v L := by
  obtain ⟨p, c, e, hA, hc⟩ := h
  exact ⟨p, c, e, hA.grown k, hc⟩
theorem Own.ls {w : World} {base : Nat} {v : Value} {L : List Int} (h : Own w base v L) : Ls w v L := by
  obtain ⟨p, c, e, hA, hc⟩ := h.arr
  exact ⟨p, c, e, hA, hc⟩
theorem dlen (a K : Nat) (h : blen a ≤ 32 * K) : (dig a).length ≤ K := by
  have h1 := (blen_le_iff a (32 * K)).1 h
  rw [← pow32] at h1
  by_cases c : (dig a).length ≤ K
  · exact c
  · exfalso
    have := len32_lt a K (by unfold len32; omega)
    omega
theorem w64x (z : Int) (h0 : -1099511627776 ≤ z) (h1 : z ≤ 1099511627776) : wrap64 z = z := by unfold wrap64; omega
set_option maxRecDepth 20000 in
set_option maxHeartbeats 1000000 in
theorem prndD_ (d : Int) (neg : Bool) (sig : Nat) (exp : Int) (w : World) (hT : Fq.Tab w) (hd1 : -9223372036854775808 ≤ d) (hd2 : d < 9223372036854775808) (hs : sig < 1152921504606846976) (he1 : -4194304 ≤ exp) (he2 : exp ≤ 4194304) :
    Calls Tryz.prog 168 #[.int .i64 d, .bool neg, .int .u64 (sig : Int), .int .i64 exp] w fun e w' => e = .returned (.float .f64 (pW 9223372036854775808 neg (finU 53 2098 9218868437227405311 9218868437227405312 (dirN neg d) (rV (dirN neg d) 53 sig 1 (exp + 1074))))) ∧ Fq.Grown w w' := by
  obtain ⟨dm, hdm⟩ : ∃ dm, dm = dirN neg d := ⟨_, rfl⟩
  obtain ⟨d', hd'⟩ : ∃ d' : Int, d' = if neg = true then wrap64 (-d) else d := ⟨_, rfl⟩
  have hdd : (d' = 1 ↔ dm = 1) ∧ (d' = -1 ↔ dm = -1) := by
    rw [hd', hdm]; unfold dirN
    cases neg
    · simp
    · simp only [if_true]
      by_cases c : d = -9223372036854775808
      · rw [c]; unfold wrap64; omega
      · rw [show wrap64 (-d) = -d from by unfold wrap64; omega]; exact ⟨Iff.rfl, Iff.rfl⟩
  have hupd : ∀ a b c, upw d' a b c = upw dm a b c := fun a b c => by unfold upw; simp only [hdd.1, hdd.2]
  obtain ⟨bl, hbl⟩ : ∃ bl, bl = blen sig := ⟨_, rfl⟩
  obtain ⟨tt, htt⟩ : ∃ tt : Int, tt = exp + 1074 := ⟨_, rfl⟩
  obtain ⟨Lx, hLx⟩ : ∃ Lx : Nat, (Lx : Int) = max (max tt (tt + bl - 53)) 0 := ⟨(max (max tt (tt + bl - 53)) 0).toNat, by omega⟩
  obtain ⟨c, hc9⟩ : ∃ c : Nat, (c : Int) = Lx - tt := ⟨(Lx - tt).toNat, by omega⟩
  obtain ⟨hV, hlt⟩ := prog_round dm 53 sig tt Lx c (by decide) (by rw [hLx, hbl]; rfl) hc9
  obtain ⟨U, hU⟩ : ∃ U, U = rV dm 53 sig 1 tt := ⟨_, rfl⟩
  obtain ⟨kp, hkp⟩ : ∃ kp, kp = sig / 2 ^ c + (upw dm (sig / 2 ^ c) (sig % 2 ^ c) (2 ^ c)).toNat := ⟨_, rfl⟩
  rw [← hU, ← hkp] at hV
  have hkb : kp ≤ 9007199254740992 := by
    rw [show (2 : Nat) ^ 53 = 9007199254740992 from by decide] at hlt
    rw [hkp]
    have := Bool.toNat_le (upw dm (sig / 2 ^ c) (sig % 2 ^ c) (2 ^ c))
    omega
  have hcut := cut61 dm sig c hs kp hkp
  obtain ⟨ct, hct⟩ : ∃ ct, ct = min c 61 := ⟨_, rfl⟩
  rw [← hct] at hcut
  obtain ⟨k0, hk0⟩ : ∃ k0, k0 = sig / 2 ^ ct := ⟨_, rfl⟩
  obtain ⟨rs, hrs⟩ : ∃ rs, rs = sig % 2 ^ ct := ⟨_, rfl⟩
  obtain ⟨wh, hwh⟩ : ∃ wh, wh = 2 ^ ct := ⟨_, rfl⟩
  obtain ⟨ub, hub⟩ : ∃ ub, ub = upw dm k0 rs wh := ⟨_, rfl⟩
  rw [← hk0, ← hrs, ← hwh, ← hub] at hcut
  obtain ⟨last, hlast⟩ : ∃ last : Int, last = (Lx : Int) - 1074 := ⟨_, rfl⟩
  rw [← hdm, ← htt, ← hU]
  have bl60 : bl ≤ 60 := by rw [hbl]; exact blen_lt sig 60 (by rw [show (2 : Nat) ^ 60 = 1152921504606846976 from by decide]; exact hs)
  have hlen : ∀ w : World, Calls Tryz.prog 187 #[.int .u64 (sig : Int)] w fun e w' => e = .returned (.int .i64 (bl : Int)) ∧ w' = w := fun w => by
    have h := Fq.len64_ (sig : Int) (by omega) (by omega) w
    rw [Int.toNat_natCast] at h
    have e : Lib.bitLen sig = bl := by
      by_cases c0 : sig = 0
      · rw [hbl, c0, blen_zero]; decide
      · rw [hbl]; exact bitLen_blen sig c0 (by omega)
    rw [e] at h
    exact h
  have hct2 : ct ≤ 61 := by rw [hct]; exact Nat.min_le_right _ _
  have hwh2 : wh ≤ 2305843009213693952 := by
    rw [hwh]
    have : (2 : Nat) ^ ct ≤ 2 ^ 61 := Nat.pow_le_pow_right (by omega) hct2
    rw [show (2 : Nat) ^ 61 = 2305843009213693952 from by decide] at this
    exact this
  have hdiv : sig = k0 * wh + rs := by rw [hk0, hrs, hwh, Nat.mul_comm]; exact (Nat.div_add_mod _ _).symm
  have hrl : rs ≤ sig := by rw [hrs]; exact Nat.mod_le _ _
  obtain ⟨kc, hkc⟩ : ∃ kc, kc = k0 * wh := ⟨_, rfl⟩
  have f1 : (sig : Int) / (wh : Int) = (k0 : Int) := by rw [hk0, hwh]; exact (Int.natCast_ediv _ _).symm
  have f2 : (k0 : Int) * (wh : Int) = (kc : Int) := by rw [hkc]; exact (Int.natCast_mul _ _).symm
  have f2' : IntKind.u64.wrap (kc : Int) = (kc : Int) := by rw [IntKind.wrap_u64]; omega
  have f3 : IntKind.u64.wrap ((sig : Int) - (kc : Int)) = (rs : Int) := by rw [IntKind.wrap_u64]; omega
  have f4 : (2 : Int) ^ ct = (wh : Int) := by rw [hwh]; push_cast; rfl
  have f4' : IntKind.u64.wrap (wh : Int) = (wh : Int) := by rw [IntKind.wrap_u64]; omega
  have hup : ∀ w : World, Calls Tryz.prog 188 #[.int .i64 d', .int .u64 (k0 : Int), .int .u64 (rs : Int), .int .u64 (wh : Int)] w fun e w' => e = .returned (.bool ub) ∧ w' = w := fun w => by
    have h := upward_ d' k0 rs wh w (by omega)
    rw [hupd, ← hub] at h
    exact h
  have g1 : wrap64 (exp + (bl : Int)) = exp + (bl : Int) := w64x _ (by omega) (by omega)
  have g2 : wrap64 (exp + (bl : Int) - 53) = exp + (bl : Int) - 53 := w64x _ (by omega) (by omega)
  have g3 : ∀ w : World, (Builtin.max_ #[3, 3, 3] 3 #[.int .i64 exp, .int .i64 (exp + (bl : Int) - 53), .int .i64 (-1074)]).run Tryz.prog w = .ok (.int .i64 last) w := fun w => by
    rw [run_max_int3]
    congr 2
    rw [hlast]
    split <;> split <;> omega
  have g4 : wrap64 (last - exp) = (c : Int) := by rw [show last - exp = (c : Int) from by omega]; exact w64x _ (by omega) (by omega)
  have g5 : ∀ w : World, (Builtin.min_ #[3, 3] 3 #[.int .i64 (c : Int), .int .i64 61]).run Tryz.prog w = .ok (.int .i64 (ct : Int)) w := fun w => by
    rw [run_min_int2]
    congr 2
    split <;> omega
  have HC : Hid (U = kp * 2 ^ Lx ∧ kp = k0 + ub.toNat ∧ kp ≤ 9007199254740992 ∧ last = (Lx : Int) - 1074 ∧ k0 ≤ 1152921504606846976 ∧ -8388608 ≤ last ∧ last ≤ 8388608) := ⟨hV, hcut, hkb, hlast, by rw [hk0]; exact Nat.le_trans (Nat.div_le_self _ _) (by omega), by omega, by omega⟩
  have HD : Hid ((d' = 1 ↔ dm = 1) ∧ (d' = -1 ↔ dm = -1)) := hdd
  have HD' : Hid (d' = if neg = true then wrap64 (-d) else d) := hd'
  have HT : Hid (Fq.Tab w) := hT
  have t61 : ct ≤ 61 := hct2
  clear hd1 hd2 hs he1 he2 hdd hupd hd' hdm hbl htt hLx hc9 hV hlt hU hkp hkb hcut hct hk0 hrs hwh hub hlast bl60 hct2 hwh2 hdiv hrl hkc hT
  go_enter Tryz.func168, Tryz.ntmps168
  go_upto_if 16 with fail
  go_cut [0] (fun s0 wx => s0 = .int .i64 d' ∧ wx = w)
  case first =>
    have h1 := HD'.out
    cases neg
    · have a1 : d' = d := by rw [h1]; rfl
      clear h1 HC HD HD' HT
      go_wp2_with fail
      go_meet
      exact ⟨by rw [a1], rfl⟩
    · have a1 : d' = wrap64 (-d) := by rw [h1]; rfl
      clear h1 HC HD HD' HT
      go_wp2_with fail
      go_meet
      exact ⟨by rw [a1], rfl⟩
  case rest =>
  obtain ⟨rfl, hwc⟩ := hcut
  obtain rfl := hwc.symm
  clear hwc HD'
  have hf := fmtD_ w
  go_wp2_with fail
  refine hf.mono ?_; rintro e w1 ⟨rfl, hg1⟩
  have hl := hlen w1
  clear hf hlen
  go_wp2_with fail
  refine hl.mono ?_; rintro e w' ⟨rfl, hw'⟩; obtain rfl := hw'.symm; clear hl hw'
  go_upto_region 7 with fail
  go_quiet ((go_at_call 188; exact Calls.quiet_of_same (hup _)))
  have hg2 : Fq.Grown w (w1.drewN nq) := Fq.gdrewN nq hg1
  obtain ⟨w2, hw2⟩ : ∃ w2, w2 = w1.drewN nq := ⟨_, rfl⟩
  rw [← hw2] at hg2 ⊢
  clear hup hg1 hw2 f1 f2 f2' f3 f4 f4' g1 g2 g3 g4 g5
  go_upto_if 48 with fail
  go_cut [13] (fun s13 wx => s13 = .int .u64 (kp : Int) ∧ wx = w2)
  case first =>
    obtain ⟨_, h1, _, _, h2, _⟩ := HC.out
    cases ub
    · have a1 : kp = k0 := by rw [h1]; rfl
      clear h1 h2 HC HD HT
      go_wp2_with fail
      go_meet
      exact ⟨by rw [a1], rfl⟩
    · have a1 : kp = k0 + 1 := by rw [h1]; rfl
      have a2 : IntKind.u64.wrap ((k0 : Int) + 1) = (kp : Int) := by rw [IntKind.wrap_u64]; omega
      clear h1 h2 a1 HC HD HT
      go_wp2_with fail
      go_meet
      exact ⟨by first | rfl | rw [a2], rfl⟩
  case rest =>
  obtain ⟨rfl, hwc⟩ := hcut
  obtain rfl := hwc.symm
  clear hwc
  by_cases c0 : kp = 0
  · have hj := Fq.joinz_d neg last w2
    have HR : Hid (pW 9223372036854775808 neg (finU 53 2098 9218868437227405311 9218868437227405312 dm U) = 0) := by
      show _ = _
      rw [HC.out.1, c0, Nat.zero_mul]
      unfold finU
      rw [blen_zero, if_pos (by omega), rgU_zero]
      rfl
    subst c0
    clear HC HD HT
    go_wp2_with fail
    refine hj.mono ?_; rintro e w' ⟨rfl, hw'⟩; obtain rfl := hw'.symm; clear hj hw'
    go_wp2
    exact bodyPost_ret (v := .float .f64 0) (by simp [results, Tryz.results168, go_sem]) rfl ⟨by rw [HR.out], hg2⟩
  · obtain ⟨o, k, ho, ek, ok64, jiff, jrg⟩ := joinPD kp Lx U last c0 HC.out.2.2.1 HC.out.2.2.2.1 HC.out.1
    have hl9 := HC.out.2.2.2.2.2
    by_cases cb : blen U ≤ 2098
    · obtain ⟨r1, r2⟩ := jrg cb
      have hj := Fq.join_d neg o k ho ok64 last (by omega) (by omega) (jiff.2 cb) w2 (HT.out.grown hg2)
      rw [← ek, r1] at hj
      obtain ⟨Y, hY⟩ : ∃ Y, Y = Fq.wD neg (rgU 53 U) := ⟨_, rfl⟩
      rw [← hY] at hj
      have HR : Hid (pW 9223372036854775808 neg (finU 53 2098 9218868437227405311 9218868437227405312 dm U) = Y) := by
        show _ = _
        rw [hY]; unfold finU pW; rw [if_pos cb, if_neg r2]; rfl
      clear hY r1 r2 jrg jiff ok64 ek ho cb HC HD HT c0 hl9
      go_wp2_with fail
      refine hj.mono ?_; rintro e w3 ⟨rfl, hk⟩; clear hj
      have hg3 := Fq.gtrans hg2 hk
      clear hk hg2
      go_wp2
      exact bodyPost_ret (v := .float .f64 Y) (by simp [results, Tryz.results168, go_sem]) rfl ⟨by rw [HR.out], hg3⟩
    · have hj := Fq.joinx_d neg o k ho ok64 last (by omega) (by omega) (by cases hq : Fq.jokD o (last + (k : Int)) with | false => rfl | true => exact absurd (jiff.1 hq) cb) w2 (HT.out.grown hg2)
      rw [← ek] at hj
      by_cases cd : dm = -1
      · have t1 : (d' == -1) = true := by have := HD.out.2.2 cd; simp [this]
        obtain ⟨Y, hY⟩ : ∃ Y, Y = Fq.wD neg 9218868437227405311 := ⟨_, rfl⟩
        have hgr := greDp_ neg
        rw [← hY] at hgr
        have HR : Hid (pW 9223372036854775808 neg (finU 53 2098 9218868437227405311 9218868437227405312 dm U) = Y) := by
          show _ = _
          rw [hY]; unfold finU pW; rw [if_neg cb, if_pos cd, if_neg (by decide)]; rfl
        clear hY jrg jiff ok64 ek ho cb HC HD HT c0 hl9 cd
        go_wp2_with fail
        refine hj.mono ?_; rintro e w3 ⟨rfl, hk⟩; clear hj
        have hg3 := Fq.gtrans hg2 hk
        have hgr2 := hgr w3
        clear hk hg2 hgr
        go_wp2_with fail
        refine hgr2.mono ?_; rintro e w4 ⟨rfl, hk⟩; clear hgr2
        have hg4 := Fq.gtrans hg3 hk
        clear hk hg3
        go_wp2
        exact bodyPost_ret (v := .float .f64 Y) (by simp [results, Tryz.results168, go_sem]) rfl ⟨by rw [HR.out], hg4⟩
      · have t1 : (d' == -1) = false := by have := mt HD.out.2.1 cd; simp [this]
        obtain ⟨Y, hY⟩ : ∃ Y, Y = Fq.wD neg 9218868437227405312 := ⟨_, rfl⟩
        have hgr := infD_ neg
        rw [← hY] at hgr
        have HR : Hid (pW 9223372036854775808 neg (finU 53 2098 9218868437227405311 9218868437227405312 dm U) = Y) := by
          show _ = _
          rw [hY]; unfold finU pW; rw [if_neg cb, if_neg cd, if_neg (by decide)]; rfl
        clear hY jrg jiff ok64 ek ho cb HC HD HT c0 hl9 cd
        go_wp2_with fail
        refine hj.mono ?_; rintro e w3 ⟨rfl, hk⟩; clear hj
        have hg3 := Fq.gtrans hg2 hk
        have hgr2 := hgr w3
        clear hk hg2 hgr
        go_wp2_with fail
        refine hgr2.mono ?_; rintro e w' ⟨rfl, hw'⟩; obtain rfl := hw'.symm; clear hgr2 hw'
        go_wp2
        exact bodyPost_ret (v := .float .f64 Y) (by simp [results, Tryz.results168, go_sem]) rfl ⟨by rw [HR.out], hg3⟩
end Go.Proofs.YthdnajcgdngmcaaGreatDoor
