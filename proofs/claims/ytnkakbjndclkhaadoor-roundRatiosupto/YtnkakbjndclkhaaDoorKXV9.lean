import Derived.Test.YtnkakbjndclkhaaDoorProg
import Derived.Test.YtnkakbjndclkhaaDoorKXA0
import Derived.Test.YtnkakbjndclkhaaDoorKXM
import Derived.Test.YtnkakbjndclkhaaDoorKXY
import Derived.Test.YtnkakbjndclkhaaDoorKQM
import Derived.Test.YtnkakbjndclkhaaDoorKQA
import Derived.Test.YtnkakbjndclkhaaDoorKQP
import Derived.Test.YtnkakbjndclkhaaDoorKXQU
import Derived.Test.YtnkakbjndclkhaaDoorKXQF
import Derived.Test.YtnkakbjndclkhaaDoorKQB
import Derived.Test.YtnkakbjndclkhaaDoorKQBT
import Derived.Test.YtnkakbjndclkhaaDoorKQJd
import Derived.Test.YtnkakbjndclkhaaDoorKHB
import Derived.Test.YtnkakbjndclkhaaDoorKLX
import Derived.Test.YtnkakbjndclkhaaDoorKXSL
import Derived.Test.YtnkakbjndclkhaaDoorKLN
import Derived.Test.YtnkakbjndclkhaaDoorKW4
import Derived.Test.YtnkakbjndclkhaaDoorKXTZ
import Derived.Test.YtnkakbjndclkhaaDoorKXN
import Derived.Test.YtnkakbjndclkhaaDoorKH1
import Derived.Test.YtnkakbjndclkhaaDoorKH2DQ
import Derived.Test.YtnkakbjndclkhaaDoorKMR7Q
import Derived.Test.YtnkakbjndclkhaaDoorKXG1
import Derived.Test.YtnkakbjndclkhaaDoorKH3DQ
import Derived.Test.YtnkakbjndclkhaaDoorKXO
import Derived.Test.YtnkakbjndclkhaaDoorKNQ
import Derived.Test.YtnkakbjndclkhaaDoorKNS
import Derived.Test.YtnkakbjndclkhaaDoorKNC
import Derived.Test.YtnkakbjndclkhaaDoorKXT
import Derived.Test.YtnkakbjndclkhaaDoorKRX
import Derived.Test.YtnkakbjndclkhaaDoorKXRL
import Derived.Test.YtnkakbjndclkhaaDoorKRC
import Derived.Test.YtnkakbjndclkhaaDoorKRN
import Derived.Test.YtnkakbjndclkhaaDoorKBY
import Derived.Test.YtnkakbjndclkhaaDoorKBW
import Derived.Test.YtnkakbjndclkhaaDoorKNSm
import Derived.Test.YtnkakbjndclkhaaDoorKXG4
import Derived.Test.YtnkakbjndclkhaaDoorKG3D
import Derived.Test.YtnkakbjndclkhaaDoorKXO3
import Derived.Test.YtnkakbjndclkhaaDoorKO6
import Derived.Test.YtnkakbjndclkhaaDoorKXP
import Derived.Test.YtnkakbjndclkhaaDoorKXV
import Derived.WalkKit
import Derived.ProofKit
import Derived.RowKit3
import Derived.WalkSpells
import Derived.StillTactics
import Derived.Deep.QuietTactic
import Derived.BigQuiet
import Derived.Below
import Derived.Deep.OwnRows
import Derived.OwnWalk
import Derived.Laws.BitsAllLaws
import Derived.Laws.Slices
import Derived.Laws.Bits64b
import Derived.Laws.FloatArith
namespace Go.Proofs.YtnkakbjndclkhaaDoor
open Go.RowKit
theorem bitsR_ (d : Int) (neg : Bool) (a b : Nat) (exp : Int) (w : World) : Calls Tryd.prog 9 #[.float .f64 (ratW d neg a b exp)] w fun e w' => e = .returned (.int .u64 ((ratW d neg a b exp : Nat) : Int)) ∧ w' = w := by
  have hpm : ∀ R, pW 9223372036854775808 neg R = mdW neg R := fun R => rfl
  unfold ratW
  split
  · exact bitsNaN_ 9221120237041090561 ordnanD w
  · split
    · split
      · exact bitsNaN_ 9221120237041090561 ordnanD w
      · rw [← hpm]; exact bitsN_ _ (ordselfD _ _ (by decide)) w
    · split
      · exact bitsN_ 0 (ordselfD false 0 (by decide)) w
      · rw [← hpm]; exact bitsN_ _ (ordselfD _ _ (fin_leD _ _)) w
/-- the cells that a slice shows, and its block is neither of two -/
def Arr2 (g k : Nat) (w : World) (p : Option Addr) (xs : List Int) : Prop := xs = [] ∨ ∃ b off, p = some ⟨b, off, none⟩ ∧ b ≠ g ∧ b ≠ k ∧ ∀ j, j < xs.length → w.cell? ⟨b, off + j, none⟩ = some (.int .u32 (xs.getD j 0))
theorem Arr2.of {g k : Nat} {w w' : World} {p : Option Addr} {xs : List Int} (h : Arr w p xs) (kp : Kp w w') (hg : w.heap.size ≤ g) (hk : w.heap.size ≤ k) : Arr2 g k w' p xs := by
  by_cases c : xs.length = 0
  · exact Or.inl (List.length_eq_zero_iff.1 c)
  · obtain ⟨b, off, e, hc⟩ := h.at (k := 0) (by omega)
    have := cell_lt (hc 0 (by omega))
    exact Or.inr ⟨b, off, e, by omega, by omega, fun j hj => kkeep kp (hc j hj)⟩
theorem Arr2.grown {g k : Nat} {w w' : World} {p : Option Addr} {xs : List Int} (h : Arr2 g k w p xs) (kp : Kp w w') : Arr2 g k w' p xs := by
  rcases h with h | ⟨b, off, e, h1, h2, hc⟩
  · exact Or.inl h
  · exact Or.inr ⟨b, off, e, h1, h2, fun j hj => kkeep kp (hc j hj)⟩
theorem Arr2.kb1 {g k : Nat} {w w' : World} {p : Option Addr} {xs : List Int} (h : Arr2 g k w p xs) (kb : Kb g w w') : Arr2 g k w' p xs := by
  rcases h with h | ⟨b, off, e, h1, h2, hc⟩
  · exact Or.inl h
  · exact Or.inr ⟨b, off, e, h1, h2, fun j hj => kb.arr h1 (hc j hj)⟩
theorem Arr2.kb2 {g k : Nat} {w w' : World} {p : Option Addr} {xs : List Int} (h : Arr2 g k w p xs) (kb : Kb k w w') : Arr2 g k w' p xs := by
  rcases h with h | ⟨b, off, e, h1, h2, hc⟩
  · exact Or.inl h
  · exact Or.inr ⟨b, off, e, h1, h2, fun j hj => kb.arr h2 (hc j hj)⟩
theorem Arr2.arr {g k : Nat} {w : World} {p : Option Addr} {xs : List Int} (h : Arr2 g k w p xs) : Arr w p xs := by
  rcases h with h | ⟨b, off, e, h1, h2, hc⟩
  · exact Or.inl h
  · exact Or.inr ⟨b, off, e, hc⟩
theorem Arr2.n1 {g k : Nat} {w : World} {p : Option Addr} {xs : List Int} (h : Arr2 g k w p xs) : ArrN g w p xs := by
  rcases h with h | ⟨b, off, e, h1, h2, hc⟩
  · exact Or.inl h
  · exact Or.inr ⟨b, off, e, h1, hc⟩
theorem Arr2.n2 {g k : Nat} {w : World} {p : Option Addr} {xs : List Int} (h : Arr2 g k w p xs) : ArrN k w p xs := by
  rcases h with h | ⟨b, off, e, h1, h2, hc⟩
  · exact Or.inl h
  · exact Or.inr ⟨b, off, e, h2, hc⟩
/-- the cells of an Exact -/
structure Box (w : World) (B : Nat) (d : Int) (neg : Bool) (p q : Option Addr) (N M c c2 : Nat) (exp : Int) : Prop where
  e0 : w.cell? ⟨B, 0, none⟩ = some (.int .i64 d)
  e1 : w.cell? ⟨B, 1, none⟩ = some (.bool neg)
  e2 : w.cell? ⟨B, 2, none⟩ = some (.slice p N c)
  e3 : w.cell? ⟨B, 3, none⟩ = some (.slice q M c2)
  e4 : w.cell? ⟨B, 4, none⟩ = some (.int .i64 exp)
theorem Box.grown {w w' : World} {B : Nat} {d : Int} {neg : Bool} {p q : Option Addr} {N M c c2 : Nat} {exp : Int} (h : Box w B d neg p q N M c c2 exp) (k : Kp w w') : Box w' B d neg p q N M c c2 exp := ⟨kkeep k h.e0, kkeep k h.e1, kkeep k h.e2, kkeep k h.e3, kkeep k h.e4⟩
theorem Box.kb {w w' : World} {B g : Nat} {d : Int} {neg : Bool} {p q : Option Addr} {N M c c2 : Nat} {exp : Int} (h : Box w B d neg p q N M c c2 exp) (k : Kb g w w') (hne : B ≠ g) : Box w' B d neg p q N M c c2 exp := ⟨k.arr hne h.e0, k.arr hne h.e1, k.arr hne h.e2, k.arr hne h.e3, k.arr hne h.e4⟩
set_option maxRecDepth 20000 in
set_option maxHeartbeats 2000000 in
theorem ratios_ (d : Int) (neg : Bool) (p q : Option Addr) (c c2 : Nat) (xs ys : List Int) (exp : Int) (w : World) (hQ : Fq.Tab w) (hd1 : -9223372036854775808 ≤ d) (hd2 : d < 9223372036854775808) (he1 : -9223372036854775808 ≤ exp) (he2 : exp < 9223372036854775808) (hx : Arr w p xs) (hy : Arr w q ys) (hwx : Wd xs) (hwy : Wd ys) (lx : xs.length ≤ 1048576) (ly : ys.length ≤ 1048576) (hc : xs.length ≤ c) (hc2 : ys.length ≤ c2) :
    Calls Tryd.prog 4 #[.agg #[.int .i64 d, .bool neg, .slice p xs.length c, .slice q ys.length c2, .int .i64 exp]] w fun e w' => e = .returned (.bool true) ∧ Kp w w' := by
  obtain ⟨B, hB⟩ : ∃ B, B = w.heap.size := ⟨_, rfl⟩
  obtain ⟨N, hN⟩ : ∃ N, N = xs.length := ⟨_, rfl⟩
  obtain ⟨M, hM⟩ : ∃ M, M = ys.length := ⟨_, rfl⟩
  obtain ⟨w0, hw0⟩ : ∃ w0, w0 = w.alloc (.cells #[.int .i64 d, .bool neg, .slice p N c, .slice q M c2, .int .i64 exp] 24) := ⟨_, rfl⟩
  have hk0 : Kp w w0 := by rw [hw0]; exact (Kp.refl w).alloc _
  have bx : Box w0 B d neg p q N M c c2 exp := by
    constructor <;> (rw [hw0, hB]; simp [go_sem])
  have AX : Arr w0 p xs := hx.grown hk0
  have AY : Arr w0 q ys := hy.grown hk0
  replace hQ := Fq.Tab.grown hQ hk0
  have hQlt : 1 < w0.heap.size := cell_lt (hQ 0 (by omega))
  have hBlt : B < w0.heap.size := cell_lt bx.e0
  have HD : Hid (-9223372036854775808 ≤ d ∧ d < 9223372036854775808 ∧ -9223372036854775808 ≤ exp ∧ exp < 9223372036854775808 ∧ Wd xs ∧ Wd ys ∧ N = xs.length ∧ M = ys.length ∧ N ≤ 1048576 ∧ M ≤ 1048576 ∧ N ≤ c ∧ M ≤ c2 ∧ B = w.heap.size) := ⟨hd1, hd2, he1, he2, hwx, hwy, hN, hM, by omega, by omega, by omega, by omega, hB⟩
  -- the reference's answers
  have href : ∀ (zs zt : List Int) (pa pb : Option Addr) (ca cb la lb : Nat) (w1 : World), Arr w1 pa zs → Arr w1 pb zt → Wd zs → Wd zt → zs.length = la → zt.length = lb → la ≤ 1048576 → lb ≤ 1048576 → la ≤ ca → lb ≤ cb → Calls Tryd.prog 13 #[.int .i64 d, .bool neg, .slice pa la ca, .slice pb lb cb, .int .i64 exp] w1 fun e w' => e = .returned (.int .u64 ((ratW d neg (val zs) (val zt) exp : Nat) : Int)) ∧ Kp w1 w' := fun zs zt pa pb ca cb la lb w1 a1 a2 w1' w2' l1 l2 h1 h2 h3 h4 => by
    subst l1 l2
    exact rratio_ d neg pa pb ca cb zs zt exp w1 a1 a2 w1' w2' h1 h2 h3 h4 he1 he2
  have hoth : ∀ (zs : List Int) (pa : Option Addr) (ca la : Nat) (w1 : World), Arr w1 pa zs → Wd zs → zs.length = la → la ≤ 1048576 → Calls Tryd.prog 6 #[.slice pa la ca] w1 fun e w' => ∃ g ts, e = .returned (.slice (some ⟨g, 0, none⟩) la (la + 40)) ∧ w1.heap.size ≤ g ∧ ts.length = la ∧ Wd ts ∧ Rw w' g (la + 40) (ts ++ gdsV) ∧ Kp w1 w' := fun zs pa ca la w1 a1 w1' l1 h1 => by
    subst l1
    exact otherV_ pa ca zs w1 a1 w1' h1
  have hroom : ∀ (zs : List Int) (pa : Option Addr) (ca la : Nat) (w1 : World), Arr w1 pa zs → zs.length = la → la ≤ 1048576 → Calls Tryd.prog 8 #[.slice pa la ca] w1 fun e w' => ∃ g, e = .returned (.tuple #[.slice (some ⟨g, 0, none⟩) la (la + 40), .slice (some ⟨g, 0, none⟩) (la + 40) (la + 40)]) ∧ w1.heap.size ≤ g ∧ Rw w' g (la + 40) (zs ++ gdsV) ∧ Kp w1 w' := fun zs pa ca la w1 a1 l1 h1 => by
    subst l1
    exact roomyV_ pa ca zs w1 a1 (by omega)
  have hprg : ∀ (zs zt : List Int) (g k la lb : Nat) (w1 : World), Fq.Tab w1 → Rw w1 g (la + 40) (zs ++ gdsV) → Rw w1 k (lb + 40) (zt ++ gdsV) → Wd zs → Wd zt → zs.length = la → zt.length = lb → la ≤ 1048576 → lb ≤ 1048576 → Calls Tryd.prog 14 #[.int .i64 d, .bool neg, .slice (some ⟨g, 0, none⟩) la (la + 40), .slice (some ⟨k, 0, none⟩) lb (lb + 40), .int .i64 exp] w1 fun r w' => r = .returned (.float .f64 (ratW d neg (val zs) (val zt) exp)) ∧ Kp w1 w' := fun zs zt g k la lb w1 t1 r1 r2 w1' w2' l1 l2 h1 h2 => by
    subst l1 l2
    exact prat_ d neg _ _ _ _ zs zt exp w1 t1 hd1 hd2 (row_arr r1 (by omega)) (row_arr r2 (by omega)) w1' w2' h1 h2 (by omega) (by omega)
  have hlft : ∀ (zs : List Int) (pa : Option Addr) (ca la g : Nat) (w1 : World), Arr w1 pa zs → Rw w1 g (la + 40) (zs ++ gdsV) → zs.length = la → la ≤ 1048576 → Calls Tryd.prog 11 #[.slice pa la ca, .slice (some ⟨g, 0, none⟩) (la + 40) (la + 40)] w1 fun r w' => r = .returned (.bool true) ∧ Kp w1 w' := fun zs pa ca la g w1 a1 r1 l1 h1 => by
    subst l1
    exact leftV_ pa ca g zs w1 a1 r1 h1
  have hpla : ∀ (zs zt : List Int) (g ca la : Nat) (pa : Option Addr) (w1 : World), Rw w1 g (la + 40) (zs ++ gdsV) → ArrN g w1 pa zt → zs.length = la → zt.length = la → la ≤ 1048576 → Calls Tryd.prog 12 #[.slice (some ⟨g, 0, none⟩) la (la + 40), .slice pa la ca] w1 fun e w' => ∃ v, e = .returned v ∧ Rw w' g (la + 40) (zt ++ gdsV) ∧ Kb g w1 w' := fun zs zt g ca la pa w1 r1 a1 l1 l2 h1 => by
    have h := placeW_ g (la + 40) ca pa zs zt gdsV w1 r1 (by omega) (by rw [List.length_append, gdsV_len]; omega) a1 (by omega)
    rw [l1, l2] at h; exact h
  have kk : Kp w0 w0 := Kp.refl w0
  rw [← hN, ← hM]
  clear hx hy hwx hwy lx ly hc hc2 hd1 hd2 he1 he2 hN hM hB
  have q1 := hoth xs p c N w0 AX HD.out.2.2.2.2.1 HD.out.2.2.2.2.2.2.1.symm HD.out.2.2.2.2.2.2.2.2.1
  have bxe := bx
  obtain ⟨e0, e1, e2, e3, e4⟩ := bxe
  go_enter Tryd.func4, Tryd.ntmps4
  go_wp2_with fail
  rw [← HD.out.2.2.2.2.2.2.2.2.2.2.2.2, ← hw0]
  go_wp2_with fail
  refine q1.mono ?_; rintro e w1 ⟨gv, ts, rfl, hgv, hlt, hwt, hrt, ka⟩; clear q1 e0 e1 e2 e3 e4
  replace bx := bx.grown ka
  replace AX := AX.grown ka
  replace AY := AY.grown ka
  replace hQ : Fq.Tab _ := Fq.Tab.grown hQ ka
  replace kk := kk.trans ka
  clear ka
  have bxe := bx
  obtain ⟨e0, e1, e2, e3, e4⟩ := bxe
  have hcall := hoth ys q c2 M _ AY HD.out.2.2.2.2.2.1 HD.out.2.2.2.2.2.2.2.1.symm HD.out.2.2.2.2.2.2.2.2.2.1
  go_wp2_with fail
  refine hcall.mono ?_; rintro e w2 ⟨gu, us, rfl, hgu, hlu, hwu, hru, ka⟩; clear hcall hoth
  clear e0 e1 e2 e3 e4
  replace bx := bx.grown ka
  replace AX := AX.grown ka
  replace AY := AY.grown ka
  replace hrt := hrt.grown ka
  replace hQ : Fq.Tab _ := Fq.Tab.grown hQ ka
  replace kk := kk.trans ka
  clear ka
  have AT : Arr w2 (some ⟨gv, 0, none⟩) ts := row_arr hrt (by omega)
  have AU : Arr w2 (some ⟨gu, 0, none⟩) us := row_arr hru (by omega)
  have HE : Hid (Wd ts ∧ Wd us ∧ ts.length = N ∧ us.length = M) := ⟨hwt, hwu, hlt, hlu⟩
  clear hrt hru hwt hwu hlt hlu hgv hgu
  obtain ⟨X, hX⟩ : ∃ X, X = ratW d neg (val xs) (val ys) exp := ⟨_, rfl⟩
  obtain ⟨Y, hY⟩ : ∃ Y, Y = ratW d neg (val ts) (val us) exp := ⟨_, rfl⟩
  obtain ⟨Z, hZ⟩ : ∃ Z, Z = ratW d neg (val xs) (val xs) exp := ⟨_, rfl⟩
  have HZ : Hid (X = ratW d neg (val xs) (val ys) exp ∧ Y = ratW d neg (val ts) (val us) exp ∧ Z = ratW d neg (val xs) (val xs) exp) := ⟨hX, hY, hZ⟩
  clear hX hY hZ
  have bxe := bx
  obtain ⟨e0, e1, e2, e3, e4⟩ := bxe
  have hcall := href xs ys p q c c2 N M _ AX AY HD.out.2.2.2.2.1 HD.out.2.2.2.2.2.1 HD.out.2.2.2.2.2.2.1.symm HD.out.2.2.2.2.2.2.2.1.symm HD.out.2.2.2.2.2.2.2.2.1 HD.out.2.2.2.2.2.2.2.2.2.1 HD.out.2.2.2.2.2.2.2.2.2.2.1 HD.out.2.2.2.2.2.2.2.2.2.2.2.1
  rw [← HZ.out.1] at hcall
  go_wp2_with fail
  refine hcall.mono ?_; rintro e wa1 ⟨rfl, ka⟩; clear hcall
  clear e0 e1 e2 e3 e4
  replace bx := bx.grown ka
  replace AX := AX.grown ka
  replace AY := AY.grown ka
  replace AT := AT.grown ka
  replace AU := AU.grown ka
  replace hQ : Fq.Tab _ := Fq.Tab.grown hQ ka
  replace kk := kk.trans ka
  clear ka
  have bxe := bx
  obtain ⟨e0, e1, e2, e3, e4⟩ := bxe
  have hcall := href ts us _ _ (N + 40) (M + 40) N M _ AT AU HE.out.1 HE.out.2.1 HE.out.2.2.1 HE.out.2.2.2 HD.out.2.2.2.2.2.2.2.2.1 HD.out.2.2.2.2.2.2.2.2.2.1 (by omega) (by omega)
  rw [← HZ.out.2.1] at hcall
  go_wp2_with fail
  refine hcall.mono ?_; rintro e wa2 ⟨rfl, ka⟩; clear hcall
  clear e0 e1 e2 e3 e4
  replace bx := bx.grown ka
  replace AX := AX.grown ka
  replace AY := AY.grown ka
  replace AT := AT.grown ka
  replace AU := AU.grown ka
  replace hQ : Fq.Tab _ := Fq.Tab.grown hQ ka
  replace kk := kk.trans ka
  clear ka
  have hbX : ∀ w1 : World, Calls Tryd.prog 9 #[.float .f64 X] w1 fun e w' => e = .returned (.int .u64 (X : Int)) ∧ w' = w1 := fun w1 => by rw [HZ.out.1]; exact bitsR_ d neg _ _ exp w1
  have hbY : ∀ w1 : World, Calls Tryd.prog 9 #[.float .f64 Y] w1 fun e w' => e = .returned (.int .u64 (Y : Int)) ∧ w' = w1 := fun w1 => by rw [HZ.out.2.1]; exact bitsR_ d neg _ _ exp w1
  have hbZ : ∀ w1 : World, Calls Tryd.prog 9 #[.float .f64 Z] w1 fun e w' => e = .returned (.int .u64 (Z : Int)) ∧ w' = w1 := fun w1 => by rw [HZ.out.2.2]; exact bitsR_ d neg _ _ exp w1
  have hwx1 := HD.out.2.2.2.2.1
  have bxe := bx
  obtain ⟨e0, e1, e2, e3, e4⟩ := bxe
  have hcall := hroom xs p c N _ AX HD.out.2.2.2.2.2.2.1.symm HD.out.2.2.2.2.2.2.2.2.1
  go_wp2_with fail
  refine hcall.mono ?_; rintro e wa3 ⟨g1, rfl, hg1, hr1, ka⟩; clear hcall
  clear e0 e1 e2 e3 e4
  have hs1 := Below.size kk
  have BX := AX
  have BY := AY
  have BT := AT
  have BU := AU
  have kq := ka
  replace bx := bx.grown ka
  replace AX := AX.grown ka
  replace AY := AY.grown ka
  replace AT := AT.grown ka
  replace AU := AU.grown ka
  replace hQ : Fq.Tab _ := Fq.Tab.grown hQ ka
  replace kk := kk.trans ka
  clear ka
  have bxe := bx
  obtain ⟨e0, e1, e2, e3, e4⟩ := bxe
  have hcall := hroom ys q c2 M _ AY HD.out.2.2.2.2.2.2.2.1.symm HD.out.2.2.2.2.2.2.2.2.2.1
  have hs2 := Below.size kk
  have hlt1 : g1 < wa3.heap.size := World.rowIs.lt hr1
  go_wp2_with fail
  refine hcall.mono ?_; rintro e wa4 ⟨g2, rfl, hg2, hr2, ka⟩; clear hcall hroom
  clear e0 e1 e2 e3 e4
  have kq2 := kq.trans ka
  have CX : Arr2 g1 g2 wa4 p xs := Arr2.of BX kq2 hg1 (by have := Below.size kq; omega)
  have CY : Arr2 g1 g2 wa4 q ys := Arr2.of BY kq2 hg1 (by have := Below.size kq; omega)
  have CT : Arr2 g1 g2 wa4 (some ⟨gv, 0, none⟩) ts := Arr2.of BT kq2 hg1 (by have := Below.size kq; omega)
  have CU : Arr2 g1 g2 wa4 (some ⟨gu, 0, none⟩) us := Arr2.of BU kq2 hg1 (by have := Below.size kq; omega)
  have hB1 : B ≠ g1 := by omega
  have hB2 : B ≠ g2 := by omega
  have hT1 : 1 ≠ g1 := by omega
  have hT2 : 1 ≠ g2 := by omega
  have hgw1 : w0.heap.size ≤ g1 := by omega
  have hgw2 : w0.heap.size ≤ g2 := by omega
  have h12 : g1 ≠ g2 := by omega
  have h21 : g2 ≠ g1 := by omega
  replace bx := bx.grown ka
  replace hr1 := hr1.grown ka
  replace hQ : Fq.Tab _ := Fq.Tab.grown hQ ka
  replace kk := kk.trans ka
  clear ka kq kq2 AX AY AT AU BX BY BT BU hs1 hs2 hlt1 hg1 hg2 hQlt hBlt
  have hpX : ∀ w1 : World, Fq.Tab w1 → Rw w1 g1 (N + 40) (xs ++ gdsV) → Rw w1 g2 (M + 40) (ys ++ gdsV) → Calls Tryd.prog 14 #[.int .i64 d, .bool neg, .slice (some ⟨g1, 0, none⟩) N (N + 40), .slice (some ⟨g2, 0, none⟩) M (M + 40), .int .i64 exp] w1 fun r w' => r = .returned (.float .f64 X) ∧ Kp w1 w' := fun w1 t r1 r2 => by
    rw [HZ.out.1]; exact hprg xs ys g1 g2 N M w1 t r1 r2 HD.out.2.2.2.2.1 HD.out.2.2.2.2.2.1 HD.out.2.2.2.2.2.2.1.symm HD.out.2.2.2.2.2.2.2.1.symm HD.out.2.2.2.2.2.2.2.2.1 HD.out.2.2.2.2.2.2.2.2.2.1
  have hpY : ∀ w1 : World, Fq.Tab w1 → Rw w1 g1 (N + 40) (ts ++ gdsV) → Rw w1 g2 (M + 40) (us ++ gdsV) → Calls Tryd.prog 14 #[.int .i64 d, .bool neg, .slice (some ⟨g1, 0, none⟩) N (N + 40), .slice (some ⟨g2, 0, none⟩) M (M + 40), .int .i64 exp] w1 fun r w' => r = .returned (.float .f64 Y) ∧ Kp w1 w' := fun w1 t r1 r2 => by
    rw [HZ.out.2.1]; exact hprg ts us g1 g2 N M w1 t r1 r2 HE.out.1 HE.out.2.1 HE.out.2.2.1 HE.out.2.2.2 HD.out.2.2.2.2.2.2.2.2.1 HD.out.2.2.2.2.2.2.2.2.2.1
  have hpZ : ∀ w1 : World, Fq.Tab w1 → Rw w1 g1 (N + 40) (xs ++ gdsV) → Calls Tryd.prog 14 #[.int .i64 d, .bool neg, .slice (some ⟨g1, 0, none⟩) N (N + 40), .slice (some ⟨g1, 0, none⟩) N (N + 40), .int .i64 exp] w1 fun r w' => r = .returned (.float .f64 Z) ∧ Kp w1 w' := fun w1 t r1 => by
    rw [HZ.out.2.2]; exact hprg xs xs g1 g1 N N w1 t r1 r1 HD.out.2.2.2.2.1 HD.out.2.2.2.2.1 HD.out.2.2.2.2.2.2.1.symm HD.out.2.2.2.2.2.2.1.symm HD.out.2.2.2.2.2.2.2.2.1 HD.out.2.2.2.2.2.2.2.2.1
  have hrZ : ∀ w1 : World, Arr w1 p xs → Calls Tryd.prog 13 #[.int .i64 d, .bool neg, .slice p N c, .slice p N c, .int .i64 exp] w1 fun r w' => r = .returned (.int .u64 (Z : Int)) ∧ Kp w1 w' := fun w1 a1 => by
    rw [HZ.out.2.2]; exact href xs xs p p c c N N w1 a1 a1 HD.out.2.2.2.2.1 HD.out.2.2.2.2.1 HD.out.2.2.2.2.2.2.1.symm HD.out.2.2.2.2.2.2.1.symm HD.out.2.2.2.2.2.2.2.2.1 HD.out.2.2.2.2.2.2.2.2.1 HD.out.2.2.2.2.2.2.2.2.2.2.1 HD.out.2.2.2.2.2.2.2.2.2.2.1
  have hl1 : ∀ w1 : World, Arr w1 p xs → Rw w1 g1 (N + 40) (xs ++ gdsV) → Calls Tryd.prog 11 #[.slice p N c, .slice (some ⟨g1, 0, none⟩) (N + 40) (N + 40)] w1 fun r w' => r = .returned (.bool true) ∧ Kp w1 w' := fun w1 a1 r1 => hlft xs p c N g1 w1 a1 r1 HD.out.2.2.2.2.2.2.1.symm HD.out.2.2.2.2.2.2.2.2.1
  have hl2 : ∀ w1 : World, Arr w1 q ys → Rw w1 g2 (M + 40) (ys ++ gdsV) → Calls Tryd.prog 11 #[.slice q M c2, .slice (some ⟨g2, 0, none⟩) (M + 40) (M + 40)] w1 fun r w' => r = .returned (.bool true) ∧ Kp w1 w' := fun w1 a1 r1 => hlft ys q c2 M g2 w1 a1 r1 HD.out.2.2.2.2.2.2.2.1.symm HD.out.2.2.2.2.2.2.2.2.2.1
  have hl3 : ∀ w1 : World, Arr w1 (some ⟨gv, 0, none⟩) ts → Rw w1 g1 (N + 40) (ts ++ gdsV) → Calls Tryd.prog 11 #[.slice (some ⟨gv, 0, none⟩) N (N + 40), .slice (some ⟨g1, 0, none⟩) (N + 40) (N + 40)] w1 fun r w' => r = .returned (.bool true) ∧ Kp w1 w' := fun w1 a1 r1 => hlft ts _ (N + 40) N g1 w1 a1 r1 HE.out.2.2.1 HD.out.2.2.2.2.2.2.2.2.1
  have hl4 : ∀ w1 : World, Arr w1 (some ⟨gu, 0, none⟩) us → Rw w1 g2 (M + 40) (us ++ gdsV) → Calls Tryd.prog 11 #[.slice (some ⟨gu, 0, none⟩) M (M + 40), .slice (some ⟨g2, 0, none⟩) (M + 40) (M + 40)] w1 fun r w' => r = .returned (.bool true) ∧ Kp w1 w' := fun w1 a1 r1 => hlft us _ (M + 40) M g2 w1 a1 r1 HE.out.2.2.2 HD.out.2.2.2.2.2.2.2.2.2.1
  clear href hprg hlft hwx1 HZ
  have bxe := bx
  obtain ⟨e0, e1, e2, e3, e4⟩ := bxe
  have hcall := hpX _ hQ hr1 hr2
  go_wp2_with fail
  refine hcall.mono ?_; rintro e wa5 ⟨rfl, ka⟩; clear hcall
  clear e0 e1 e2 e3 e4
  replace bx := bx.grown ka
  replace CX := CX.grown ka
  replace CY := CY.grown ka
  replace CT := CT.grown ka
  replace CU := CU.grown ka
  replace hr1 := hr1.grown ka
  replace hr2 := hr2.grown ka
  replace hQ : Fq.Tab _ := Fq.Tab.grown hQ ka
  replace kk := kk.trans ka
  clear ka
  have bxe := bx
  obtain ⟨e0, e1, e2, e3, e4⟩ := bxe
  go_wp2_with fail
  refine (hbX _).mono ?_; rintro e w' ⟨rfl, hw'⟩; obtain rfl := hw'.symm; clear hw'
  clear e0 e1 e2 e3 e4
  have bxe := bx
  obtain ⟨e0, e1, e2, e3, e4⟩ := bxe
  have hcall := hl1 _ CX.arr hr1
  go_wp2_with fail
  refine hcall.mono ?_; rintro e wa6 ⟨rfl, ka⟩; clear hcall
  clear e0 e1 e2 e3 e4
  replace bx := bx.grown ka
  replace CX := CX.grown ka
  replace CY := CY.grown ka
  replace CT := CT.grown ka
  replace CU := CU.grown ka
  replace hr1 := hr1.grown ka
  replace hr2 := hr2.grown ka
  replace hQ : Fq.Tab _ := Fq.Tab.grown hQ ka
  replace kk := kk.trans ka
  clear ka
  have bxe := bx
  obtain ⟨e0, e1, e2, e3, e4⟩ := bxe
  have hcall := hl2 _ CY.arr hr2
  go_wp2_with fail
  refine hcall.mono ?_; rintro e wa7 ⟨rfl, ka⟩; clear hcall
  clear e0 e1 e2 e3 e4
  replace bx := bx.grown ka
  replace CX := CX.grown ka
  replace CY := CY.grown ka
  replace CT := CT.grown ka
  replace CU := CU.grown ka
  replace hr1 := hr1.grown ka
  replace hr2 := hr2.grown ka
  replace hQ : Fq.Tab _ := Fq.Tab.grown hQ ka
  replace kk := kk.trans ka
  clear ka
  have bxe := bx
  obtain ⟨e0, e1, e2, e3, e4⟩ := bxe
  have hcall := hpX _ hQ hr1 hr2
  go_wp2_with fail
  refine hcall.mono ?_; rintro e wa8 ⟨rfl, ka⟩; clear hcall
  clear e0 e1 e2 e3 e4
  replace bx := bx.grown ka
  replace CX := CX.grown ka
  replace CY := CY.grown ka
  replace CT := CT.grown ka
  replace CU := CU.grown ka
  replace hr1 := hr1.grown ka
  replace hr2 := hr2.grown ka
  replace hQ : Fq.Tab _ := Fq.Tab.grown hQ ka
  replace kk := kk.trans ka
  clear ka
  have bxe := bx
  obtain ⟨e0, e1, e2, e3, e4⟩ := bxe
  go_wp2_with fail
  refine (hbX _).mono ?_; rintro e w' ⟨rfl, hw'⟩; obtain rfl := hw'.symm; clear hw'
  clear e0 e1 e2 e3 e4
  have bxe := bx
  obtain ⟨e0, e1, e2, e3, e4⟩ := bxe
  have hcall := hpla xs ts g1 (N + 40) N _ _ hr1 CT.n1 HD.out.2.2.2.2.2.2.1.symm HE.out.2.2.1 HD.out.2.2.2.2.2.2.2.2.1
  go_wp2_with fail
  refine hcall.mono ?_; rintro e wa9 ⟨v6, rfl, hnew, hkb⟩; clear hcall
  clear e0 e1 e2 e3 e4
  replace bx := bx.kb hkb hB1
  replace CX := CX.kb1 hkb
  replace CY := CY.kb1 hkb
  replace CT := CT.kb1 hkb
  replace CU := CU.kb1 hkb
  replace hr2 := hr2.kb hkb h21
  replace hQ : Fq.Tab wa9 := fun i hi => hkb.arr hT1 (hQ i hi)
  replace kk : Kp w0 wa9 := hkb.kp kk hgw1
  clear hr1 hkb
  have hr1 := hnew
  clear hnew
  have bxe := bx
  obtain ⟨e0, e1, e2, e3, e4⟩ := bxe
  have hcall := hpla ys us g2 (M + 40) M _ _ hr2 CU.n2 HD.out.2.2.2.2.2.2.2.1.symm HE.out.2.2.2 HD.out.2.2.2.2.2.2.2.2.2.1
  go_wp2_with fail
  refine hcall.mono ?_; rintro e wa10 ⟨v6, rfl, hnew, hkb⟩; clear hcall
  clear e0 e1 e2 e3 e4
  replace bx := bx.kb hkb hB2
  replace CX := CX.kb2 hkb
  replace CY := CY.kb2 hkb
  replace CT := CT.kb2 hkb
  replace CU := CU.kb2 hkb
  replace hr1 := hr1.kb hkb h12
  replace hQ : Fq.Tab wa10 := fun i hi => hkb.arr hT2 (hQ i hi)
  replace kk : Kp w0 wa10 := hkb.kp kk hgw2
  clear hr2 hkb
  have hr2 := hnew
  clear hnew
  have bxe := bx
  obtain ⟨e0, e1, e2, e3, e4⟩ := bxe
  have hcall := hpY _ hQ hr1 hr2
  go_wp2_with fail
  refine hcall.mono ?_; rintro e wa11 ⟨rfl, ka⟩; clear hcall
  clear e0 e1 e2 e3 e4
  replace bx := bx.grown ka
  replace CX := CX.grown ka
  replace CY := CY.grown ka
  replace CT := CT.grown ka
  replace CU := CU.grown ka
  replace hr1 := hr1.grown ka
  replace hr2 := hr2.grown ka
  replace hQ : Fq.Tab _ := Fq.Tab.grown hQ ka
  replace kk := kk.trans ka
  clear ka
  have bxe := bx
  obtain ⟨e0, e1, e2, e3, e4⟩ := bxe
  go_wp2_with fail
  refine (hbY _).mono ?_; rintro e w' ⟨rfl, hw'⟩; obtain rfl := hw'.symm; clear hw'
  clear e0 e1 e2 e3 e4
  have bxe := bx
  obtain ⟨e0, e1, e2, e3, e4⟩ := bxe
  have hcall := hl3 _ CT.arr hr1
  go_wp2_with fail
  refine hcall.mono ?_; rintro e wa12 ⟨rfl, ka⟩; clear hcall
  clear e0 e1 e2 e3 e4
  replace bx := bx.grown ka
  replace CX := CX.grown ka
  replace CY := CY.grown ka
  replace CT := CT.grown ka
  replace CU := CU.grown ka
  replace hr1 := hr1.grown ka
  replace hr2 := hr2.grown ka
  replace hQ : Fq.Tab _ := Fq.Tab.grown hQ ka
  replace kk := kk.trans ka
  clear ka
  have bxe := bx
  obtain ⟨e0, e1, e2, e3, e4⟩ := bxe
  have hcall := hl4 _ CU.arr hr2
  go_wp2_with fail
  refine hcall.mono ?_; rintro e wa13 ⟨rfl, ka⟩; clear hcall
  clear e0 e1 e2 e3 e4
  replace bx := bx.grown ka
  replace CX := CX.grown ka
  replace CY := CY.grown ka
  replace CT := CT.grown ka
  replace CU := CU.grown ka
  replace hr1 := hr1.grown ka
  replace hr2 := hr2.grown ka
  replace hQ : Fq.Tab _ := Fq.Tab.grown hQ ka
  replace kk := kk.trans ka
  clear ka
  have bxe := bx
  obtain ⟨e0, e1, e2, e3, e4⟩ := bxe
  have hcall := hpla ts xs g1 c N _ _ hr1 CX.n1 HE.out.2.2.1 HD.out.2.2.2.2.2.2.1.symm HD.out.2.2.2.2.2.2.2.2.1
  go_wp2_with fail
  refine hcall.mono ?_; rintro e wa14 ⟨v6, rfl, hnew, hkb⟩; clear hcall
  clear e0 e1 e2 e3 e4
  replace bx := bx.kb hkb hB1
  replace CX := CX.kb1 hkb
  replace CY := CY.kb1 hkb
  replace CT := CT.kb1 hkb
  replace CU := CU.kb1 hkb
  replace hr2 := hr2.kb hkb h21
  replace hQ : Fq.Tab wa14 := fun i hi => hkb.arr hT1 (hQ i hi)
  replace kk : Kp w0 wa14 := hkb.kp kk hgw1
  clear hr1 hkb
  have hr1 := hnew
  clear hnew
  have bxe := bx
  obtain ⟨e0, e1, e2, e3, e4⟩ := bxe
  have hcall := hpla us ys g2 c2 M _ _ hr2 CY.n2 HE.out.2.2.2 HD.out.2.2.2.2.2.2.2.1.symm HD.out.2.2.2.2.2.2.2.2.2.1
  go_wp2_with fail
  refine hcall.mono ?_; rintro e wa15 ⟨v6, rfl, hnew, hkb⟩; clear hcall
  clear e0 e1 e2 e3 e4
  replace bx := bx.kb hkb hB2
  replace CX := CX.kb2 hkb
  replace CY := CY.kb2 hkb
  replace CT := CT.kb2 hkb
  replace CU := CU.kb2 hkb
  replace hr1 := hr1.kb hkb h12
  replace hQ : Fq.Tab wa15 := fun i hi => hkb.arr hT2 (hQ i hi)
  replace kk : Kp w0 wa15 := hkb.kp kk hgw2
  clear hr2 hkb
  have hr2 := hnew
  clear hnew
  go_wp2
  refine wp_region_kp (by kernel_rfl) (by kernel_rfl) (fun ι _ G hG hall => ?_)
  have c0 : ∀ n, (G n).cell? ⟨B, 0, none⟩ = some (.int .i64 d) := fun n => kkeep (hG n) bx.e0
  have c1 : ∀ n, (G n).cell? ⟨B, 1, none⟩ = some (.bool neg) := fun n => kkeep (hG n) bx.e1
  have c3 : ∀ n, (G n).cell? ⟨B, 2, none⟩ = some (.slice p N c) := fun n => kkeep (hG n) bx.e2
  have c4 : ∀ n, (G n).cell? ⟨B, 4, none⟩ = some (.int .i64 exp) := fun n => kkeep (hG n) bx.e4
  have k1 : ∀ n, Calls Tryd.prog 14 #[.int .i64 d, .bool neg, .slice (some ⟨g1, 0, none⟩) N (N + 40), .slice (some ⟨g1, 0, none⟩) N (N + 40), .int .i64 exp] (G n) fun r w' => r = .returned (.float .f64 Z) ∧ Kp (G n) w' := fun n => hpZ _ (Fq.Tab.grown hQ (hG n)) (hr1.grown (hG n))
  have k2 : ∀ n, Calls Tryd.prog 13 #[.int .i64 d, .bool neg, .slice p N c, .slice p N c, .int .i64 exp] (G n) fun r w' => r = .returned (.int .u64 (Z : Int)) ∧ Kp (G n) w' := fun n => hrZ _ (CX.arr.grown (hG n))
  repeat (go_big_quiet_step (first | (go_at_call 14; exact (k1 _).mono (fun e w' h => ⟨h.1, hall _ ((hG _).trans h.2)⟩)) | (go_at_call 9; exact (hbZ _).mono (fun e w' h => ⟨h.1, hall _ (by rw [h.2]; exact hG _)⟩)) | (go_at_call 13; exact (k2 _).mono (fun e w' h => ⟨h.1, hall _ ((hG _).trans h.2)⟩))))
  refine wpQuiet_nil ?_
  rintro _ ⟨nq, rfl⟩
  have ka := hG nq
  clear c0 c1 c3 c4 k1 k2 hall hG
  replace bx := bx.grown ka
  replace CX := CX.grown ka
  replace CY := CY.grown ka
  replace CT := CT.grown ka
  replace CU := CU.grown ka
  replace hr1 := hr1.grown ka
  replace hr2 := hr2.grown ka
  replace hQ : Fq.Tab _ := Fq.Tab.grown hQ ka
  replace kk := kk.trans ka
  clear ka
  have bxe := bx
  obtain ⟨e0, e1, e2, e3, e4⟩ := bxe
  have hcall := hpX _ hQ hr1 hr2
  go_wp2_with fail
  refine hcall.mono ?_; rintro e wa16 ⟨rfl, ka⟩; clear hcall
  clear e0 e1 e2 e3 e4
  replace bx := bx.grown ka
  replace CX := CX.grown ka
  replace CY := CY.grown ka
  replace CT := CT.grown ka
  replace CU := CU.grown ka
  replace hr1 := hr1.grown ka
  replace hr2 := hr2.grown ka
  replace hQ : Fq.Tab _ := Fq.Tab.grown hQ ka
  replace kk := kk.trans ka
  clear ka
  have bxe := bx
  obtain ⟨e0, e1, e2, e3, e4⟩ := bxe
  go_wp2_with fail
  refine (hbX _).mono ?_; rintro e w' ⟨rfl, hw'⟩; obtain rfl := hw'.symm; clear hw'
  clear e0 e1 e2 e3 e4
  have bxe := bx
  obtain ⟨e0, e1, e2, e3, e4⟩ := bxe
  have hcall := hl1 _ CX.arr hr1
  go_wp2_with fail
  refine hcall.mono ?_; rintro e wa17 ⟨rfl, ka⟩; clear hcall
  clear e0 e1 e2 e3 e4
  replace bx := bx.grown ka
  replace CX := CX.grown ka
  replace CY := CY.grown ka
  replace CT := CT.grown ka
  replace CU := CU.grown ka
  replace hr1 := hr1.grown ka
  replace hr2 := hr2.grown ka
  replace hQ : Fq.Tab _ := Fq.Tab.grown hQ ka
  replace kk := kk.trans ka
  clear ka
  have bxe := bx
  obtain ⟨e0, e1, e2, e3, e4⟩ := bxe
  have hcall := hl2 _ CY.arr hr2
  go_wp2_with fail
  refine hcall.mono ?_; rintro e wa18 ⟨rfl, ka⟩; clear hcall
  clear e0 e1 e2 e3 e4
  replace bx := bx.grown ka
  replace CX := CX.grown ka
  replace CY := CY.grown ka
  replace CT := CT.grown ka
  replace CU := CU.grown ka
  replace hr1 := hr1.grown ka
  replace hr2 := hr2.grown ka
  replace hQ : Fq.Tab _ := Fq.Tab.grown hQ ka
  replace kk := kk.trans ka
  clear ka
  have k09 := hk0.trans kk
  clear kk bx hr1 hr2 CX CY CT CU hQ
  go_wp2
  exact bodyPost_ret (v := .bool true) (by simp [results, Tryd.results4, go_sem]) rfl ⟨rfl, k09⟩
end Go.Proofs.YtnkakbjndclkhaaDoor
