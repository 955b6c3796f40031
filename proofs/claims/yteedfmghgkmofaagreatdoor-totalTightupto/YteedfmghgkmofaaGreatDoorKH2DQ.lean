import Derived.Test.YteedfmghgkmofaaGreatDoorKQJd
import Derived.Test.YteedfmghgkmofaaGreatDoorKXA0
namespace Go.Proofs.YteedfmghgkmofaaGreatDoor
open Go.RowKit
set_option maxRecDepth 20000 in
set_option maxHeartbeats 400000 in
theorem minf_ (neg : Bool) (w : World) : Calls Tryz.prog 80 #[.int .i64 (if neg = true then -1 else 1)] w fun e w' => e = .returned (.float .f64 (Fq.wD neg 9218868437227405312)) ∧ w' = w := by
  have h1 : ∀ w : World, (callFunc 57 #[.int .u64 18442240474082181120]).run Tryz.prog w = .ok (.value (.float .f64 18442240474082181120)) w := fun w => Fq.ff64 18442240474082181120 w
  have h2 : ∀ w : World, (callFunc 57 #[.int .u64 9218868437227405312]).run Tryz.prog w = .ok (.value (.float .f64 9218868437227405312)) w := fun w => Fq.ff64 9218868437227405312 w
  cases neg
  · go_enter Tryz.func80, Tryz.ntmps80
    go_wp2
    exact bodyPost_ret (v := .float .f64 9218868437227405312) (by simp [results, Tryz.results80, go_sem]) rfl ⟨rfl, rfl⟩
  · go_enter Tryz.func80, Tryz.ntmps80
    go_wp2
    exact bodyPost_ret (v := .float .f64 18442240474082181120) (by simp [results, Tryz.results80, go_sem]) rfl ⟨rfl, rfl⟩
set_option maxRecDepth 20000 in
set_option maxHeartbeats 400000 in
theorem infD_false (w : World) : Calls Tryz.prog 87 #[.bool false] w fun e w' => e = .returned (.float .f64 (Fq.wD false 9218868437227405312)) ∧ w' = w := by
  have h := minf_ false w
  have h' : Calls Tryz.prog 80 #[.int .i64 (1)] w fun e w' => e = .returned (.float .f64 9218868437227405312) ∧ w' = w := h
  clear h
  go_enter Tryz.func87, Tryz.ntmps87
  go_wp2_with fail
  refine h'.mono ?_; rintro e w' ⟨rfl, hw'⟩; obtain rfl := hw'.symm; clear h' hw'
  go_wp2
  exact bodyPost_ret (v := .float .f64 9218868437227405312) (by simp [results, Tryz.results87, go_sem]) rfl ⟨rfl, rfl⟩
set_option maxRecDepth 20000 in
set_option maxHeartbeats 400000 in
theorem infD_true (w : World) : Calls Tryz.prog 87 #[.bool true] w fun e w' => e = .returned (.float .f64 (Fq.wD true 9218868437227405312)) ∧ w' = w := by
  have h := minf_ true w
  have h' : Calls Tryz.prog 80 #[.int .i64 (-1)] w fun e w' => e = .returned (.float .f64 18442240474082181120) ∧ w' = w := h
  clear h
  go_enter Tryz.func87, Tryz.ntmps87
  go_wp2_with fail
  refine h'.mono ?_; rintro e w' ⟨rfl, hw'⟩; obtain rfl := hw'.symm; clear h' hw'
  go_wp2
  exact bodyPost_ret (v := .float .f64 18442240474082181120) (by simp [results, Tryz.results87, go_sem]) rfl ⟨rfl, rfl⟩
theorem infD_ (neg : Bool) (w : World) : Calls Tryz.prog 87 #[.bool neg] w fun e w' => e = .returned (.float .f64 (Fq.wD neg 9218868437227405312)) ∧ w' = w := by
  cases neg
  · exact infD_false w
  · exact infD_true w
set_option maxRecDepth 20000 in
set_option maxHeartbeats 400000 in
theorem greDp_ (neg : Bool) (w : World) : Calls Tryz.prog 120 #[.bool neg] w fun e w' => e = .returned (.float .f64 (Fq.wD neg 9218868437227405311)) ∧ Fq.Grown w w' := by
  have h := infD_ neg w
  obtain ⟨Z, hZ⟩ : ∃ Z, Z = Fq.wD neg 9218868437227405312 := ⟨_, rfl⟩
  obtain ⟨Y, hY⟩ : ∃ Y, Y = Fq.wD neg 9218868437227405311 := ⟨_, rfl⟩
  cases neg
  · have hd := Fq.dn_d false 9218868437227405312 (by decide) (by decide) w
    rw [show Fq.fD (Fq.plz false 9218868437227405312 - 1) = Fq.wD false 9218868437227405311 from rfl, ← hZ, ← hY] at hd
    rw [← hZ] at h
    rw [← hY]
    clear hZ hY
    go_enter Tryz.func120, Tryz.ntmps120
    go_wp2_with fail
    refine h.mono ?_; rintro e w' ⟨rfl, hw'⟩; obtain rfl := hw'.symm; clear h hw'
    go_wp2_with fail
    refine hd.mono ?_; rintro e w1 ⟨rfl, hk⟩; clear hd
    go_wp2
    exact bodyPost_ret (v := .float .f64 Y) (by simp [results, Tryz.results120, go_sem]) rfl ⟨rfl, hk⟩
  · have hd := Fq.up_d true 9218868437227405312 (by decide) (by decide) w
    rw [show Fq.fD (Fq.plz true 9218868437227405312 + 1) = Fq.wD true 9218868437227405311 from rfl, ← hZ, ← hY] at hd
    rw [← hZ] at h
    rw [← hY]
    clear hZ hY
    go_enter Tryz.func120, Tryz.ntmps120
    go_wp2_with fail
    refine h.mono ?_; rintro e w' ⟨rfl, hw'⟩; obtain rfl := hw'.symm; clear h hw'
    go_wp2_with fail
    refine hd.mono ?_; rintro e w1 ⟨rfl, hk⟩; clear hd
    go_wp2
    exact bodyPost_ret (v := .float .f64 Y) (by simp [results, Tryz.results120, go_sem]) rfl ⟨rfl, hk⟩
set_option maxRecDepth 20000 in
set_option maxHeartbeats 400000 in
theorem fmtD_ (w : World) : Calls Tryz.prog 116 #[] w fun e w' => e = .returned (.tuple #[.int .i64 53, .int .i64 (-1074)]) ∧ Fq.Grown w w' := by
  have h1 := Fq.split_d false 4607182418800017408 (by decide)
  have h0 := Fq.split_d false 0 (by decide)
  rw [show Fq.wD false 4607182418800017408 = 4607182418800017408 from rfl, show (false && !(4607182418800017408 == 0)) = false from rfl, show (((Fq.sgD 4607182418800017408 : Nat) : Int)) = 4503599627370496 from by decide +kernel] at h1
  rw [show Fq.wD false 0 = 0 from rfl, show (false && !(0 == 0)) = false from rfl, show Fq.epD 0 = -1074 from by decide +kernel] at h0
  obtain ⟨e1, he1⟩ : ∃ e1, e1 = Fq.epD 4607182418800017408 := ⟨_, rfl⟩
  obtain ⟨s0, hs0⟩ : ∃ s0 : Int, s0 = ((Fq.sgD 0 : Nat) : Int) := ⟨_, rfl⟩
  rw [← he1] at h1
  rw [← hs0] at h0
  have hl := Fq.len64_ 4503599627370496 (by decide) (by decide)
  rw [show ((Lib.bitLen (4503599627370496 : Int).toNat : Nat) : Int) = 53 from by decide +kernel] at hl
  have c1 : floatOfInt .f64 1 = 4607182418800017408 := by decide +kernel
  have c0 : floatOfInt .f64 0 = 0 := by decide +kernel
  clear he1 hs0
  go_enter Tryz.func116, Tryz.ntmps116
  go_wp2_with fail
  refine (h1 _).mono ?_; rintro e w1 ⟨rfl, hk⟩; clear h1
  go_wp2_with fail
  refine (h0 _).mono ?_; rintro e w2 ⟨rfl, hk2⟩; clear h0
  have hk3 := Fq.gtrans hk hk2
  have hl2 := hl w2
  clear hl hk hk2
  go_wp2_with fail
  refine hl2.mono ?_; rintro e w' ⟨rfl, hw'⟩; obtain rfl := hw'.symm; clear hl2 hw'
  go_wp2
  exact bodyPost_ret (v := .tuple #[.int .i64 53, .int .i64 (-1074)]) (by simp [results, Tryz.results116, go_sem]) rfl ⟨rfl, hk3⟩

structure Rs where
  l1 : List Int
  l2 : List Int
  W : Int
  Z : Int
  B : Bool
  E : Int
structure Out (w : World) (base : Nat) (r : Rs) (p1 : Option Addr) (c1 : Nat) (p2 : Option Addr) (c2 : Nat) : Prop where
  o1 : Own w base (.slice p1 r.l1.length c1) r.l1
  o2 : Own w base (.slice p2 r.l2.length c2) r.l2
  ne : ∀ g, p1 = some ⟨g, 0, none⟩ → p2 ≠ some ⟨g, 0, none⟩
theorem Out.grown {w w' : World} {base : Nat} {r : Rs} {p1 p2 : Option Addr} {c1 c2 : Nat} (h : Out w base r p1 c1 p2 c2) (k : Kp w w') : Out w' base r p1 c1 p2 c2 := ⟨h.o1.kp k, h.o2.kp k, h.ne⟩
theorem Rw.all {w : World} {g n : Nat} {xs : List Int} (h : Rw w g n xs) (hn : xs.length = n) : Arr w (some ⟨g, 0, none⟩) xs := by
  refine Or.inr ⟨g, 0, rfl, fun j hj => ?_⟩
  rw [Nat.zero_add]
  exact World.rowIs.cell h (by omega)
theorem Rw.kb {w w' : World} {a g n : Nat} {xs : List Int} (h : Rw w g n xs) (k : Kb a w w') (hne : g ≠ a) : Rw w' g n xs := World.rowIs.of_block h (k.2.2.2.2 g (World.rowIs.lt h) hne)
theorem Own.kb {w w' : World} {a base : Nat} {v : Value} {xs : List Int} (h : Own w base v xs) (k : Kb a w w') (hne : ∀ g, v.ownBlock = some g → g ≠ a) : Own w' base v xs := by
  refine ⟨h.1, ?_⟩
  rcases h.2 with h' | ⟨g, cap, cur, h1, h2, h3, h4, h5, h6, h7⟩
  · exact Or.inl h'
  · have hlt : g < w.heap.size := by
      by_cases c : g < w.heap.size
      · exact c
      · rw [Array.getElem?_eq_none (by simpa using c)] at h3; cases h3
    exact Or.inr ⟨g, cap, cur, h1, h2, by rw [k.2.2.2.2 g hlt (hne g (by rw [h1]; rfl))]; exact h3, h4, h5, h6, h7⟩
structure Cs (w : World) (b : Nat) (r : Rs) (p1 : Option Addr) (c1 : Nat) (p2 : Option Addr) (c2 : Nat) : Prop where
  c0 : w.cell? ⟨b, 0, none⟩ = some (.slice p1 r.l1.length c1)
  c1 : w.cell? ⟨b, 1, none⟩ = some (.slice p2 r.l2.length c2)
  c2 : w.cell? ⟨b, 2, none⟩ = some (.int .u64 r.W)
  c3 : w.cell? ⟨b, 3, none⟩ = some (.int .i64 r.Z)
  c4 : w.cell? ⟨b, 4, none⟩ = some (.bool r.B)
  c5 : w.cell? ⟨b, 5, none⟩ = some (.int .i64 r.E)
theorem Cs.grown {w w' : World} {b : Nat} {r : Rs} {p1 p2 : Option Addr} {c1 c2 : Nat} (h : Cs w b r p1 c1 p2 c2) (k : Kp w w') : Cs w' b r p1 c1 p2 c2 := ⟨kkeep k h.c0, kkeep k h.c1, kkeep k h.c2, kkeep k h.c3, kkeep k h.c4, kkeep k h.c5⟩
theorem Cs.kb {w w' : World} {a b : Nat} {r : Rs} {p1 p2 : Option Addr} {c1 c2 : Nat} (h : Cs w b r p1 c1 p2 c2) (k : Kb a w w') (hne : b ≠ a) : Cs w' b r p1 c1 p2 c2 := ⟨k.arr hne h.c0, k.arr hne h.c1, k.arr hne h.c2, k.arr hne h.c3, k.arr hne h.c4, k.arr hne h.c5⟩
def Bd (lo hi : Nat) (p1 p2 : Option Addr) : Prop := ∀ g, p1 = some ⟨g, 0, none⟩ ∨ p2 = some ⟨g, 0, none⟩ → lo ≤ g ∧ g < hi
theorem own_p {p : Option Addr} {n c g : Nat} {w : World} {base : Nat} {xs : List Int} (h : Own w base (.slice p n c) xs) (hg : (Value.slice p n c).ownBlock = some g) : p = some ⟨g, 0, none⟩ := by
  rcases h.2 with ⟨h', _⟩ | ⟨g', cap, cur, h1, _⟩
  · rw [h'] at hg; cases hg
  · cases h1; cases hg; rfl
theorem Out.bd {w : World} {base : Nat} {r : Rs} {p1 p2 : Option Addr} {c1 c2 : Nat} (h : Out w base r p1 c1 p2 c2) : Bd base w.heap.size p1 p2 := by
  intro g hg
  rcases hg with rfl | rfl
  · exact h.o1.lt g rfl
  · exact h.o2.lt g rfl
theorem Out.kb {w w' : World} {a base lo hi : Nat} {r : Rs} {p1 p2 : Option Addr} {c1 c2 : Nat} (h : Out w base r p1 c1 p2 c2) (k : Kb a w w') (b : Bd lo hi p1 p2) (ha : a < lo ∨ hi ≤ a) : Out w' base r p1 c1 p2 c2 :=
  ⟨h.o1.kb k (fun g hg => by have := b g (Or.inl (own_p h.o1 hg)); omega), h.o2.kb k (fun g hg => by have := b g (Or.inr (own_p h.o2 hg)); omega), h.ne⟩
set_option maxRecDepth 20000 in
set_option maxHeartbeats 1000000 in
theorem trim_ (p : Option Addr) (c : Nat) (xs : List Int) (w : World) (hx : Arr w p xs) (lx : xs.length ≤ 1099511627776) (hc : xs.length ≤ c) :
    Calls Tryz.prog 89 #[.slice p xs.length c] w fun e w' => e = .returned (.slice p (tl xs) c) ∧ w' = w := by
  obtain ⟨N, hN⟩ : ∃ N, N = xs.length := ⟨_, rfl⟩
  rw [← hN] at lx hc ⊢
  have HX : Hid (Arr w p xs) := hx
  have HN : Hid (N = xs.length) := hN
  obtain ⟨T, hT⟩ : ∃ T, T = tl xs := ⟨_, rfl⟩
  rw [← hT]
  have HT : Hid (tlAux xs N = T) := by rw [hT, hN]; exact rfl
  have hT2 : T ≤ N := by rw [hT, hN]; exact tl_le xs
  clear hN hx hT
  go_enter Tryz.func89, Tryz.ntmps89
  go_wp2
  go_loop [3] (fun i => ∃ k : Nat, i = .int .i64 k ∧ k ≤ N ∧ tlAux xs k = T) (fun i => (intOf i).toNat)
  case atStart => exact ⟨N, rfl, Nat.le_refl _, HT.out⟩
  case round =>
    obtain ⟨k, rfl, hk, ht⟩ := hrel
    have hN := HN.out
    rcases k with _ | k
    · have hT0 : T = 0 := by rw [← ht]; rfl
      subst hT0
      clear hN HN HX HT ht hk
      go_wp2
      exact bodyPost_ret (v := .slice p 0 c) (by simp [results, Tryz.results89, go_sem] <;> simp only [*]) rfl ⟨rfl, rfl⟩
    · obtain ⟨b, off, rfl, hc'⟩ := HX.out.at (k := k) (by omega)
      have e1 := hc' k (by omega)
      have f1 : (((k + 1 : Nat) : Int) - 1) = (k : Int) := by omega
      by_cases cz : xs.getD k 0 = 0
      · rw [tlAux_zero xs k cz] at ht
        rw [cz] at e1
        clear hN HN HX HT hc'
        go_wp2
        exact ⟨⟨k, by go_num, by omega, ht⟩, by simp [intOf]⟩
      · rw [tlAux_nz xs k cz] at ht
        subst ht
        obtain ⟨X, hX⟩ : ∃ X, X = xs.getD k 0 := ⟨_, rfl⟩
        rw [← hX] at e1 cz
        have t1 : (X == 0) = false := by simp [cz]
        clear hN HN HX HT hc' hX cz
        go_wp2
        exact bodyPost_ret (v := .slice (some ⟨b, off, none⟩) (k + 1) c) (by simp [results, Tryz.results89, go_sem] <;> simp only [*]) rfl ⟨rfl, rfl⟩
set_option maxRecDepth 20000 in
set_option maxHeartbeats 400000 in
theorem add32_ (x y c : Int) (hx : 0 ≤ x ∧ x < 4294967296) (hy : 0 ≤ y ∧ y < 4294967296) (hc : 0 ≤ c ∧ c < 4294967296) (w : World) :
    Calls Tryz.prog 153 #[.int .u32 x, .int .u32 y, .int .u32 c] w fun e w' => e = .returned (.tuple #[.int .u32 ((x + y + c) % 4294967296), .int .u32 ((x + y + c) / 4294967296)]) ∧ w' = w := by
  have f1 : IntKind.u64.wrap x = x := by rw [IntKind.wrap_u64]; omega
  have f2 : IntKind.u64.wrap y = y := by rw [IntKind.wrap_u64]; omega
  have f3 : IntKind.u64.wrap c = c := by rw [IntKind.wrap_u64]; omega
  have f4 : IntKind.u64.wrap (x + y) = x + y := by rw [IntKind.wrap_u64]; omega
  have f5 : IntKind.u64.wrap (x + y + c) = x + y + c := by rw [IntKind.wrap_u64]; omega
  have f6 : IntKind.u32.wrap (x + y + c) = (x + y + c) % 4294967296 := by rw [IntKind.wrap_u32]
  have f7 : IntKind.u32.wrap ((x + y + c) / 4294967296) = (x + y + c) / 4294967296 := by rw [IntKind.wrap_u32]; omega
  clear hx hy hc
  go_enter Tryz.func153, Tryz.ntmps153
  go_wp2
  exact bodyPost_ret (v := .tuple #[.int .u32 ((x + y + c) % 4294967296), .int .u32 ((x + y + c) / 4294967296)]) (by simp [results, Tryz.results153, go_sem] <;> simp only [*]) rfl ⟨rfl, rfl⟩
set_option maxRecDepth 20000 in
set_option maxHeartbeats 400000 in
theorem tooLong_ (p : Option Addr) (m c : Nat) (w : World) : Calls Tryz.prog 124 #[.slice p m c] w fun e w' => e = .returned (.bool (decide (16384 < m))) ∧ w' = w := by
  go_enter Tryz.func124, Tryz.ntmps124
  go_wp2
  have h : decide ((16384 : Int) < (m : Int)) = decide (16384 < m) := by by_cases d : 16384 < m <;> simp [d] <;> omega
  exact bodyPost_ret (v := .bool (decide (16384 < m))) (by simp [results, Tryz.results124, go_sem] <;> omega) rfl ⟨rfl, rfl⟩
set_option maxRecDepth 20000 in
set_option maxHeartbeats 400000 in
theorem unlessLong_ (p : Option Addr) (m c : Nat) (w : World) : Calls Tryz.prog 127 #[.slice p m c] w fun e w' => e = .returned (if 16384 < m then .tuple #[.slice none 0 0, .int .i64 2] else .tuple #[.slice p m c, .int .i64 0]) ∧ w' = w := by
  have h := tooLong_ p m c
  by_cases d : 16384 < m
  · rw [decide_eq_true d] at h
    rw [if_pos d]
    clear d
    go_enter Tryz.func127, Tryz.ntmps127
    go_wp2_with (first | (go_at_call 124; refine (h _).mono ?_; rintro e w' ⟨rfl, rfl⟩))
    exact bodyPost_ret (v := .tuple #[.slice none 0 0, .int .i64 2]) (by simp [results, Tryz.results127, go_sem] <;> simp only [*]) rfl ⟨rfl, rfl⟩
  · rw [decide_eq_false d] at h
    rw [if_neg d]
    clear d
    go_enter Tryz.func127, Tryz.ntmps127
    go_wp2_with (first | (go_at_call 124; refine (h _).mono ?_; rintro e w' ⟨rfl, rfl⟩))
    exact bodyPost_ret (v := .tuple #[.slice p m c, .int .i64 0]) (by simp [results, Tryz.results127, go_sem] <;> simp only [*]) rfl ⟨rfl, rfl⟩
def Ls (w : World) (v : Value) (L : List Int) : Prop := ∃ p c, v = .slice p L.length c ∧ Arr w p L ∧ L.length ≤ c
theorem Ls.kp {w w' : World} {v : Value} {L : List Int} (h : Ls w v L) (k : Kp w w') : Ls w' v L := by
  obtain ⟨p, c, e, hA, hc⟩ := h
  exact ⟨p, c, e, hA.grown k, hc⟩
theorem Own.ls {w : World} {base : Nat} {v : Value} {L : List Int} (h : Own w base v L) : Ls w v L := by
  obtain ⟨p, c, e, hA, hc⟩ := h.arr
  exact ⟨p, c, e, hA, hc⟩
theorem dlen (a K : Nat) (h : blen a ≤ 32 * K) : (dig a).length ≤ K := by
  have h1 := (blen_le_iff a (32 * K)).1 h
  rw [← pow32] at h1
  by_cases c : (dig a).length ≤ K
  · exact c
  · exfalso
    have := len32_lt a K (by unfold len32; omega)
    omega
theorem w64x (z : Int) (h0 : -1099511627776 ≤ z) (h1 : z ≤ 1099511627776) : wrap64 z = z := by unfold wrap64; omega
end Go.Proofs.YteedfmghgkmofaaGreatDoor
