import Derived.Test.YtmgfbalhgfkibaaGreatDoorKXSL
import Derived.Test.YtmgfbalhgfkibaaGreatDoorKXY
namespace Go.Proofs.YtmgfbalhgfkibaaGreatDoor
open Go.RowKit

structure Rs where
  l1 : List Int
  l2 : List Int
  W : Int
  Z : Int
  B : Bool
  E : Int
structure Out (w : World) (base : Nat) (r : Rs) (p1 : Option Addr) (c1 : Nat) (p2 : Option Addr) (c2 : Nat) : Prop where
  o1 : Own w base (.slice p1 r.l1.length c1) r.l1
  o2 : Own w base (.slice p2 r.l2.length c2) r.l2
  ne : ∀ g, p1 = some ⟨g, 0, none⟩ → p2 ≠ some ⟨g, 0, none⟩
theorem Out.grown {w w' : World} {base : Nat} {r : Rs} {p1 p2 : Option Addr} {c1 c2 : Nat} (h : Out w base r p1 c1 p2 c2) (k : Kp w w') : Out w' base r p1 c1 p2 c2 := ⟨h.o1.kp k, h.o2.kp k, h.ne⟩
theorem Rw.all {w : World} {g n : Nat} {xs : List Int} (h : Rw w g n xs) (hn : xs.length = n) : Arr w (some ⟨g, 0, none⟩) xs := by
  refine Or.inr ⟨g, 0, rfl, fun j hj => ?_⟩
  rw [Nat.zero_add]
  exact World.rowIs.cell h (by omega)
theorem Rw.kb {w w' : World} {a g n : Nat} {xs : List Int} (h : Rw w g n xs) (k : Kb a w w') (hne : g ≠ a) : Rw w' g n xs := World.rowIs.of_block h (k.2.2.2.2 g (World.rowIs.lt h) hne)
theorem Own.kb {w w' : World} {a base : Nat} {v : Value} {xs : List Int} (h : Own w base v xs) (k : Kb a w w') (hne : ∀ g, v.ownBlock = some g → g ≠ a) : Own w' base v xs := by
  refine ⟨h.1, ?_⟩
  rcases h.2 with h' | ⟨g, cap, cur, h1, h2, h3, h4, h5, h6, h7⟩
  · exact Or.inl h'
  · have hlt : g < w.heap.size := by
      by_cases c : g < w.heap.size
      · exact c
      · rw [Array.getElem?_eq_none (by simpa using c)] at h3; cases h3
    exact Or.inr ⟨g, cap, cur, h1, h2, by rw [k.2.2.2.2 g hlt (hne g (by rw [h1]; rfl))]; exact h3, h4, h5, h6, h7⟩
structure Cs (w : World) (b : Nat) (r : Rs) (p1 : Option Addr) (c1 : Nat) (p2 : Option Addr) (c2 : Nat) : Prop where
  c0 : w.cell? ⟨b, 0, none⟩ = some (.slice p1 r.l1.length c1)
  c1 : w.cell? ⟨b, 1, none⟩ = some (.slice p2 r.l2.length c2)
  c2 : w.cell? ⟨b, 2, none⟩ = some (.int .u64 r.W)
  c3 : w.cell? ⟨b, 3, none⟩ = some (.int .i64 r.Z)
  c4 : w.cell? ⟨b, 4, none⟩ = some (.bool r.B)
  c5 : w.cell? ⟨b, 5, none⟩ = some (.int .i64 r.E)
theorem Cs.grown {w w' : World} {b : Nat} {r : Rs} {p1 p2 : Option Addr} {c1 c2 : Nat} (h : Cs w b r p1 c1 p2 c2) (k : Kp w w') : Cs w' b r p1 c1 p2 c2 := ⟨kkeep k h.c0, kkeep k h.c1, kkeep k h.c2, kkeep k h.c3, kkeep k h.c4, kkeep k h.c5⟩
theorem Cs.kb {w w' : World} {a b : Nat} {r : Rs} {p1 p2 : Option Addr} {c1 c2 : Nat} (h : Cs w b r p1 c1 p2 c2) (k : Kb a w w') (hne : b ≠ a) : Cs w' b r p1 c1 p2 c2 := ⟨k.arr hne h.c0, k.arr hne h.c1, k.arr hne h.c2, k.arr hne h.c3, k.arr hne h.c4, k.arr hne h.c5⟩
def Bd (lo hi : Nat) (p1 p2 : Option Addr) : Prop := ∀ g, p1 = some ⟨g, 0, none⟩ ∨ p2 = some ⟨g, 0, none⟩ → lo ≤ g ∧ g < hi
theorem own_p {p : Option Addr} {n c g : Nat} {w : World} {base : Nat} {xs : List Int} (h : Own w base (.slice p n c) xs) (hg : (Value.slice p n c).ownBlock = some g) : p = some ⟨g, 0, none⟩ := by
  rcases h.2 with ⟨h', _⟩ | ⟨g', cap, cur, h1, _⟩
  · rw [h'] at hg; cases hg
  · cases h1; cases hg; rfl
theorem Out.bd {w : World} {base : Nat} {r : Rs} {p1 p2 : Option Addr} {c1 c2 : Nat} (h : Out w base r p1 c1 p2 c2) : Bd base w.heap.size p1 p2 := by
  intro g hg
  rcases hg with rfl | rfl
  · exact h.o1.lt g rfl
  · exact h.o2.lt g rfl
theorem Out.kb {w w' : World} {a base lo hi : Nat} {r : Rs} {p1 p2 : Option Addr} {c1 c2 : Nat} (h : Out w base r p1 c1 p2 c2) (k : Kb a w w') (b : Bd lo hi p1 p2) (ha : a < lo ∨ hi ≤ a) : Out w' base r p1 c1 p2 c2 :=
  ⟨h.o1.kb k (fun g hg => by have := b g (Or.inl (own_p h.o1 hg)); omega), h.o2.kb k (fun g hg => by have := b g (Or.inr (own_p h.o2 hg)); omega), h.ne⟩
def Ls (w : World) (v : Value) (L : List Int) : Prop := ∃ p c, v = .slice p L.length c ∧ Arr w p L ∧ L.length ≤ c
theorem Ls.kp {w w' : World} {v : Value} {L : List Int} (h : Ls w v L) (k : Kp w w') : Ls w' v L := by
  obtain ⟨p, c, e, hA, hc⟩ := h
  exact ⟨p, c, e, hA.grown k, hc⟩
theorem Own.ls {w : World} {base : Nat} {v : Value} {L : List Int} (h : Own w base v L) : Ls w v L := by
  obtain ⟨p, c, e, hA, hc⟩ := h.arr
  exact ⟨p, c, e, hA, hc⟩
theorem dlen (a K : Nat) (h : blen a ≤ 32 * K) : (dig a).length ≤ K := by
  have h1 := (blen_le_iff a (32 * K)).1 h
  rw [← pow32] at h1
  by_cases c : (dig a).length ≤ K
  · exact c
  · exfalso
    have := len32_lt a K (by unfold len32; omega)
    omega
def Two (w : World) (base : Nat) (l1 l2 : List Int) (e : Value) : Prop := ∃ p1 c1 p2 c2, e = .tuple #[.slice p1 l1.length c1, .slice p2 l2.length c2] ∧ Own w base (.slice p1 l1.length c1) l1 ∧ Own w base (.slice p2 l2.length c2) l2 ∧ ∀ g, p1 = some ⟨g, 0, none⟩ → p2 ≠ some ⟨g, 0, none⟩
theorem Own.above {w : World} {base n c b : Nat} {xs : List Int} (h : Own w base (.slice (some ⟨b, 0, none⟩) n c) xs) : base ≤ b ∧ b < w.heap.size := by
  rcases h.2 with h' | ⟨g, cap, cur, h1, h2, h3, h4⟩
  · have := h'.1
    cases this
  · cases h1
    refine ⟨h2, ?_⟩
    by_cases c : b < w.heap.size
    · exact c
    · rw [Array.getElem?_eq_none (by omega)] at h3
      cases h3
theorem Own.len {w : World} {base : Nat} {v : Value} {xs : List Int} (h : Own w base v xs) : ∃ p c, v = .slice p xs.length c ∧ (p = none ∨ ∃ b, p = some ⟨b, 0, none⟩) := by
  obtain ⟨p, c, e, _⟩ := h.arr
  refine ⟨p, c, e, ?_⟩
  subst e
  rcases h.2 with h' | ⟨g, cap, cur, h1, h2⟩
  · have h3 := h'.1
    injection h3 with h4
    exact Or.inl h4
  · cases h1
    exact Or.inr ⟨g, rfl⟩
set_option maxRecDepth 20000 in
set_option maxHeartbeats 1000000 in
theorem rcmp_ (p q : Option Addr) (c d : Nat) (xs ys : List Int) (w : World) (hx : Arr w p xs) (hy : Arr w q ys) (hwx : Wd xs) (hwy : Wd ys) (lx : xs.length ≤ 1099511627776) (ly : ys.length ≤ 1099511627776) :
    Calls Tryz.prog 61 #[.slice p xs.length c, .slice q ys.length d] w fun e w' => e = .returned (.int .i64 (cmpN (val xs) (val ys))) ∧ Kp w w' := by
  have h1 := words_ p c xs w hx lx
  have h2 := words_ q d ys w hy ly
  have lS := tl_le xs
  have lT := tl_le ys
  have hg : Kp w w := Kp.refl w
  have dlt := fun h => cmpN_lt (tl_lt_val xs ys hwx hwy h)
  have dgt := fun h => cmpN_gt (tl_lt_val ys xs hwy hwx h)
  have deq : tl xs = tl ys → (∀ j, j < tl xs → xs.getD j 0 = ys.getD j 0) → cmpN (val xs) (val ys) = 0 := fun e h => by
    apply cmpN_eq
    rw [← val_tl xs, ← val_tl ys, ← e]
    exact cmp_all xs ys _ h
  have tlt : ∀ k, tl xs = tl ys → k < tl xs → xs.getD k 0 < ys.getD k 0 → (∀ j, k < j → j < tl xs → xs.getD j 0 = ys.getD j 0) → cmpN (val xs) (val ys) = -1 := fun k e h1 h2 h3 => by
    apply cmpN_lt
    rw [← val_tl xs, ← val_tl ys, ← e]
    exact cmp_top xs ys hwx k (hwx k).1 h2 _ h1 h3
  have tgt : ∀ k, tl xs = tl ys → k < tl xs → ys.getD k 0 < xs.getD k 0 → (∀ j, k < j → j < tl xs → xs.getD j 0 = ys.getD j 0) → cmpN (val xs) (val ys) = 1 := fun k e h1 h2 h3 => by
    apply cmpN_gt
    rw [← val_tl xs, ← val_tl ys, ← e]
    exact cmp_top ys xs hwy k (hwy k).1 h2 _ h1 (fun j a b => (h3 j a b).symm)
  obtain ⟨R, hR⟩ : ∃ R, R = cmpN (val xs) (val ys) := ⟨_, rfl⟩
  obtain ⟨N, hN⟩ : ∃ N, N = xs.length := ⟨_, rfl⟩
  obtain ⟨M, hM⟩ : ∃ M, M = ys.length := ⟨_, rfl⟩
  obtain ⟨S, hS⟩ : ∃ S, S = tl xs := ⟨_, rfl⟩
  obtain ⟨T, hT⟩ : ∃ T, T = tl ys := ⟨_, rfl⟩
  rw [← hS, ← hN] at h1 lS
  rw [← hT, ← hM] at h2 lT
  rw [← hS, ← hT, ← hR] at dlt dgt deq tlt tgt
  rw [← hN, ← hM, ← hR]
  have HX : Hid (Arr w p xs) := hx
  have HY : Hid (Arr w q ys) := hy
  have HN : Hid (N = xs.length ∧ M = ys.length) := ⟨hN, hM⟩
  have lS2 : S ≤ 1099511627776 := by omega
  clear hx hy hwx hwy lx ly hN hM hS hT hR
  rcases Nat.lt_trichotomy S T with cST | cST | cST
  · rw [dlt cST]
    have t1 : (S : Int) < (T : Int) := by omega
    clear dlt dgt deq tlt tgt HX HY HN cST lS lT
    go_enter Tryz.func61, Tryz.ntmps61
    go_wp2_with fail
    refine h1.mono ?_; rintro e w' ⟨rfl, hw'⟩; obtain rfl := hw'.symm
    go_wp2_with fail
    refine h2.mono ?_; rintro e w' ⟨rfl, hw'⟩; obtain rfl := hw'.symm
    go_wp2
    exact bodyPost_ret (v := .int .i64 (-1)) (by simp [results, Tryz.results61, go_sem] <;> simp only [*]) rfl ⟨rfl, hg⟩
  · subst cST
    have t1 : ¬ ((S : Int) < (S : Int)) := by omega
    have HD : Hid ((∀ j, j < S → xs.getD j 0 = ys.getD j 0) → R = 0) := deq rfl
    have HL : Hid (∀ k, k < S → xs.getD k 0 < ys.getD k 0 → (∀ j, k < j → j < S → xs.getD j 0 = ys.getD j 0) → R = -1) := fun k => tlt k rfl
    have HR : Hid (∀ k, k < S → ys.getD k 0 < xs.getD k 0 → (∀ j, k < j → j < S → xs.getD j 0 = ys.getD j 0) → R = 1) := fun k => tgt k rfl
    clear dlt dgt deq tlt tgt
    go_enter Tryz.func61, Tryz.ntmps61
    go_wp2_with fail
    refine h1.mono ?_; rintro e w' ⟨rfl, hw'⟩; obtain rfl := hw'.symm
    go_wp2_with fail
    refine h2.mono ?_; rintro e w' ⟨rfl, hw'⟩; obtain rfl := hw'.symm
    clear h1 h2
    go_wp2
    clear t1
    go_loopw [7] (fun i wr => ∃ (k : Nat) (z : Int), k ≤ S ∧ z = (k : Int) - 1 ∧ i = .int .i64 z ∧ Kp w wr ∧ ∀ j, k ≤ j → j < S → xs.getD j 0 = ys.getD j 0) (fun i _ => (intOf i + 1).toNat)
    case atStart => exact ⟨S, _, Nat.le_refl _, rfl, by go_num, hg, fun j _ _ => by omega⟩
    case round =>
      clear hg
      obtain ⟨k, z, hk, hz, rfl, hg, hs⟩ := hrel
      rcases k with _ | k
      · have hR0 := HD.out (fun j hj => hs j (Nat.zero_le _) hj)
        subst hR0
        have hz0 : z = -1 := by omega
        subst hz0
        clear hz HX HY HN HD HL HR hs hk lS lT
        go_wp2
        exact bodyPost_ret (v := .int .i64 (0)) (by simp [results, Tryz.results61, go_sem] <;> simp only [*]) rfl ⟨rfl, hg⟩
      · have hz0 : z = (k : Int) := by omega
        subst hz0
        obtain ⟨hN, hM⟩ := HN.out
        obtain ⟨b, off, rfl, hc⟩ := HX.out.at (k := k) (by omega)
        obtain ⟨b', off', rfl, hc'⟩ := HY.out.at (k := k) (by omega)
        have e1 := kkeep hg (hc k (by omega))
        have e2 := kkeep hg (hc' k (by omega))
        have i0 : (0 : Int) ≤ (k : Int) := by omega
        have i1 : (k : Int) < (N : Int) := by omega
        have i2 : (k : Int) < (M : Int) := by omega
        have rl := fun h => HL.out k (by omega) h (fun j a b => hs j (by omega) b)
        have rg := fun h => HR.out k (by omega) h (fun j a b => hs j (by omega) b)
        have re : xs.getD k 0 = ys.getD k 0 → ∀ j, k ≤ j → j < S → xs.getD j 0 = ys.getD j 0 := fun h j a b => by
          by_cases e : j = k
          · subst e; exact h
          · exact hs j (by omega) b
        obtain ⟨X, hX⟩ : ∃ X, X = xs.getD k 0 := ⟨_, rfl⟩
        obtain ⟨Y, hY⟩ : ∃ Y, Y = ys.getD k 0 := ⟨_, rfl⟩
        rw [← hX] at e1 rl rg re
        rw [← hY] at e2 rl rg re
        have hk2 : k ≤ S := by omega
        clear hc hc' HX HY HN HD HL HR hs hN hM hX hY hz hk lS lT
        rcases (by omega : X < Y ∨ Y < X ∨ X = Y) with cx | cx | cx
        · have hR1 := rl cx
          subst hR1
          clear rl rg re
          go_wp2
          refine wp_region_kp (by kernel_rfl) (by kernel_rfl) (fun ι _ G hG hall => ?_)
          have c0 : ∀ n, (G n).cell? ⟨b, off + k, none⟩ = some (.int .u32 X) := fun n => kkeep (hG n) e1
          have c1 : ∀ n, (G n).cell? ⟨b', off' + k, none⟩ = some (.int .u32 Y) := fun n => kkeep (hG n) e2
          repeat (go_big_quiet_step (fail))
          refine wpQuiet_nil ?_
          rintro _ ⟨nq, rfl⟩
          have gq := hG nq
          replace e1 := kkeep gq e1
          replace e2 := kkeep gq e2
          replace hg := hg.trans gq
          clear c0 c1 hall hG gq
          go_wp2
          exact bodyPost_ret (v := .int .i64 (-1)) (by simp [results, Tryz.results61, go_sem] <;> simp only [*]) rfl ⟨rfl, hg⟩
        · have hR1 := rg cx
          subst hR1
          have cy : ¬ (X < Y) := by omega
          clear rl rg re
          go_wp2
          refine wp_region_kp (by kernel_rfl) (by kernel_rfl) (fun ι _ G hG hall => ?_)
          have c0 : ∀ n, (G n).cell? ⟨b, off + k, none⟩ = some (.int .u32 X) := fun n => kkeep (hG n) e1
          have c1 : ∀ n, (G n).cell? ⟨b', off' + k, none⟩ = some (.int .u32 Y) := fun n => kkeep (hG n) e2
          repeat (go_big_quiet_step (fail))
          refine wpQuiet_nil ?_
          rintro _ ⟨nq, rfl⟩
          have gq := hG nq
          replace e1 := kkeep gq e1
          replace e2 := kkeep gq e2
          replace hg := hg.trans gq
          clear c0 c1 hall hG gq
          go_wp2
          refine wp_region_kp (by kernel_rfl) (by kernel_rfl) (fun ι2 _ G2 hG hall => ?_)
          have c0 : ∀ n, (G2 n).cell? ⟨b, off + k, none⟩ = some (.int .u32 X) := fun n => kkeep (hG n) e1
          have c1 : ∀ n, (G2 n).cell? ⟨b', off' + k, none⟩ = some (.int .u32 Y) := fun n => kkeep (hG n) e2
          repeat (go_big_quiet_step (fail))
          refine wpQuiet_nil ?_
          rintro _ ⟨nq2, rfl⟩
          have gq := hG nq2
          replace e1 := kkeep gq e1
          replace e2 := kkeep gq e2
          replace hg := hg.trans gq
          clear c0 c1 hall hG gq
          go_wp2
          exact bodyPost_ret (v := .int .i64 (1)) (by simp [results, Tryz.results61, go_sem] <;> simp only [*]) rfl ⟨rfl, hg⟩
        · have hs2 := re cx
          subst cx
          have cy : ¬ (X < X) := by omega
          clear rl rg re
          go_wp2
          refine wp_region_kp (by kernel_rfl) (by kernel_rfl) (fun ι _ G hG hall => ?_)
          have c0 : ∀ n, (G n).cell? ⟨b, off + k, none⟩ = some (.int .u32 X) := fun n => kkeep (hG n) e1
          have c1 : ∀ n, (G n).cell? ⟨b', off' + k, none⟩ = some (.int .u32 X) := fun n => kkeep (hG n) e2
          repeat (go_big_quiet_step (fail))
          refine wpQuiet_nil ?_
          rintro _ ⟨nq, rfl⟩
          have gq := hG nq
          replace e1 := kkeep gq e1
          replace e2 := kkeep gq e2
          replace hg := hg.trans gq
          clear c0 c1 hall hG gq
          go_wp2
          refine wp_region_kp (by kernel_rfl) (by kernel_rfl) (fun ι2 _ G2 hG hall => ?_)
          have c0 : ∀ n, (G2 n).cell? ⟨b, off + k, none⟩ = some (.int .u32 X) := fun n => kkeep (hG n) e1
          have c1 : ∀ n, (G2 n).cell? ⟨b', off' + k, none⟩ = some (.int .u32 X) := fun n => kkeep (hG n) e2
          repeat (go_big_quiet_step (fail))
          refine wpQuiet_nil ?_
          rintro _ ⟨nq2, rfl⟩
          have gq := hG nq2
          replace e1 := kkeep gq e1
          replace e2 := kkeep gq e2
          replace hg := hg.trans gq
          clear c0 c1 hall hG gq
          go_wp2
          exact ⟨⟨k, _, hk2, rfl, by go_num, hg, hs2⟩, by simp [intOf]⟩
  · rw [dgt cST]
    have t1 : ¬ ((S : Int) < (T : Int)) := by omega
    have t2 : (T : Int) < (S : Int) := by omega
    clear dlt dgt deq tlt tgt HX HY HN cST lS lT
    go_enter Tryz.func61, Tryz.ntmps61
    go_wp2_with fail
    refine h1.mono ?_; rintro e w' ⟨rfl, hw'⟩; obtain rfl := hw'.symm
    go_wp2_with fail
    refine h2.mono ?_; rintro e w' ⟨rfl, hw'⟩; obtain rfl := hw'.symm
    go_wp2
    exact bodyPost_ret (v := .int .i64 (1)) (by simp [results, Tryz.results61, go_sem] <;> simp only [*]) rfl ⟨rfl, hg⟩
end Go.Proofs.YtmgfbalhgfkibaaGreatDoor
