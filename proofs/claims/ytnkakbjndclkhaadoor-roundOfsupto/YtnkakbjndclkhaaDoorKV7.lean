import Derived.Test.YtnkakbjndclkhaaDoorProg
import Derived.Test.YtnkakbjndclkhaaDoorKXA0
import Derived.Test.YtnkakbjndclkhaaDoorKXM
import Derived.Test.YtnkakbjndclkhaaDoorKXY
import Derived.Test.YtnkakbjndclkhaaDoorKQM
import Derived.Test.YtnkakbjndclkhaaDoorKQA
import Derived.Test.YtnkakbjndclkhaaDoorKQP
import Derived.Test.YtnkakbjndclkhaaDoorKXQU
import Derived.Test.YtnkakbjndclkhaaDoorKXQF
import Derived.Test.YtnkakbjndclkhaaDoorKQB
import Derived.Test.YtnkakbjndclkhaaDoorKQBT
import Derived.Test.YtnkakbjndclkhaaDoorKQJd
import Derived.Test.YtnkakbjndclkhaaDoorKHB
import Derived.Test.YtnkakbjndclkhaaDoorKLX
import Derived.Test.YtnkakbjndclkhaaDoorKXSL
import Derived.Test.YtnkakbjndclkhaaDoorKLN
import Derived.Test.YtnkakbjndclkhaaDoorKW4
import Derived.Test.YtnkakbjndclkhaaDoorKXTZ
import Derived.Test.YtnkakbjndclkhaaDoorKXN
import Derived.Test.YtnkakbjndclkhaaDoorKH1
import Derived.Test.YtnkakbjndclkhaaDoorKH2DQ
import Derived.Test.YtnkakbjndclkhaaDoorKMR7Q
import Derived.Test.YtnkakbjndclkhaaDoorKXG1
import Derived.Test.YtnkakbjndclkhaaDoorKH3DQ
import Derived.Test.YtnkakbjndclkhaaDoorKXT
import Derived.Test.YtnkakbjndclkhaaDoorKRX
import Derived.Test.YtnkakbjndclkhaaDoorKXRL
import Derived.Test.YtnkakbjndclkhaaDoorKRC
import Derived.Test.YtnkakbjndclkhaaDoorKRN
import Derived.Test.YtnkakbjndclkhaaDoorKBY
import Derived.Test.YtnkakbjndclkhaaDoorKBW
import Derived.Test.YtnkakbjndclkhaaDoorKNSm
import Derived.Test.YtnkakbjndclkhaaDoorKXG4
import Derived.Test.YtnkakbjndclkhaaDoorKG3D
import Derived.Test.YtnkakbjndclkhaaDoorKXO
import Derived.Test.YtnkakbjndclkhaaDoorKXO3
import Derived.Test.YtnkakbjndclkhaaDoorKO6
import Derived.Test.YtnkakbjndclkhaaDoorKXV
import Derived.WalkKit
import Derived.ProofKit
import Derived.RowKit3
import Derived.WalkSpells
import Derived.StillTactics
import Derived.Deep.QuietTactic
import Derived.BigQuiet
import Derived.Below
import Derived.Deep.OwnRows
import Derived.OwnWalk
import Derived.Laws.BitsAllLaws
import Derived.Laws.Slices
import Derived.Laws.Bits64b
namespace Go.Proofs.YtnkakbjndclkhaaDoor
open Go.RowKit
set_option maxRecDepth 20000 in
set_option maxHeartbeats 1000000 in
theorem ofs_ (d : Int) (neg : Bool) (p q : Option Addr) (c n2 c2 : Nat) (xs : List Int) (exp : Int) (w : World) (hT : Tab w) (hQ : Fq.Tab w) (hd1 : -9223372036854775808 ≤ d) (hd2 : d < 9223372036854775808) (he1 : -9223372036854775808 ≤ exp) (he2 : exp < 9223372036854775808) (hx : Arr w p xs) (hwx : Wd xs) (lx : xs.length ≤ 1048576) (hc : xs.length ≤ c) :
    Calls Tryd.prog 3 #[.agg #[.int .i64 d, .bool neg, .slice p xs.length c, .slice q n2 c2, .int .i64 exp]] w fun e w' => e = .returned (.bool true) ∧ Kp w w' := by
  obtain ⟨B, hB⟩ : ∃ B, B = w.heap.size := ⟨_, rfl⟩
  obtain ⟨N, hN⟩ : ∃ N, N = xs.length := ⟨_, rfl⟩
  obtain ⟨w0, hw0⟩ : ∃ w0, w0 = w.alloc (.cells #[.int .i64 d, .bool neg, .slice p N c, .slice q n2 c2, .int .i64 exp] 24) := ⟨_, rfl⟩
  have hk0 : Kp w w0 := by rw [hw0]; exact (Kp.refl w).alloc _
  have e0 : w0.cell? ⟨B, 0, none⟩ = some (.int .i64 d) := by rw [hw0, hB]; simp [go_sem]
  have e1 : w0.cell? ⟨B, 1, none⟩ = some (.bool neg) := by rw [hw0, hB]; simp [go_sem]
  have e2 : w0.cell? ⟨B, 2, none⟩ = some (.slice p N c) := by rw [hw0, hB]; simp [go_sem]
  have e4 : w0.cell? ⟨B, 4, none⟩ = some (.int .i64 exp) := by rw [hw0, hB]; simp [go_sem]
  have hx0 : Arr w0 p xs := hx.grown hk0
  replace hT := hT.grown hk0
  replace hQ := hQ.grown hk0
  have ho := otherV_ p c xs w0 hx0 hwx lx
  obtain ⟨X, hX⟩ : ∃ X, X = ratW d neg (val xs) 1 exp := ⟨_, rfl⟩
  rw [← hN] at ho ⊢
  have hwant : ∀ w1 : World, Kp w0 w1 → Calls Tryd.prog 7 #[.int .i64 d, .bool neg, .slice p N c, .int .i64 exp] w1 fun e w' => e = .returned (.int .u64 (X : Int)) ∧ Kp w1 w' := fun w1 k1 => by
    rw [hX, hN]; exact rof_ d neg p c xs exp w1 (hx0.grown k1) hwx lx hc he1 he2
  have hbX : ∀ w1 : World, Calls Tryd.prog 9 #[.float .f64 X] w1 fun e w' => e = .returned (.int .u64 (X : Int)) ∧ w' = w1 := fun w1 => by
    rw [hX, ← of_rat]; exact bitsV_ d neg (val xs) exp w1
  have hroom : ∀ w1 : World, Kp w0 w1 → Calls Tryd.prog 8 #[.slice p N c] w1 fun e w' => ∃ g, e = .returned (.tuple #[.slice (some ⟨g, 0, none⟩) N (N + 40), .slice (some ⟨g, 0, none⟩) (N + 40) (N + 40)]) ∧ w1.heap.size ≤ g ∧ Rw w' g (N + 40) (xs ++ gdsV) ∧ Kp w1 w' := fun w1 k1 => by
    rw [hN]; exact roomyV_ p c xs w1 (hx0.grown k1) (by omega)
  have HX : Hid (N = xs.length ∧ Wd xs ∧ xs.length ≤ 1048576 ∧ xs.length ≤ c ∧ X = ratW d neg (val xs) 1 exp ∧ B = w.heap.size ∧ B < w0.heap.size ∧ -9223372036854775808 ≤ d ∧ d < 9223372036854775808 ∧ -9223372036854775808 ≤ exp ∧ exp < 9223372036854775808) := ⟨hN, hwx, lx, hc, hX, hB, cell_lt e0, hd1, hd2, he1, he2⟩
  have hTlt : 2 < w0.heap.size := hT.lt
  have hQlt : 1 < w0.heap.size := cell_lt (hQ 0 (by omega))
  clear hx hN hwx lx hc hX hB hd1 hd2 he1 he2
  go_enter Tryd.func3, Tryd.ntmps3
  go_wp2_with fail
  rw [← HX.out.2.2.2.2.2.1, ← hw0]
  go_wp2_with fail
  refine ho.mono ?_; rintro e w1 ⟨gv, ts, rfl, hgv, hlt, hwt, hrt, k1⟩
  replace e0 := kkeep k1 e0
  replace e1 := kkeep k1 e1
  replace e2 := kkeep k1 e2
  replace e4 := kkeep k1 e4
  have h2 := hwant w1 k1
  clear ho
  go_wp2_with fail
  refine h2.mono ?_; rintro e w2 ⟨rfl, k2⟩
  replace e0 := kkeep k2 e0
  replace e1 := kkeep k2 e1
  replace e2 := kkeep k2 e2
  replace e4 := kkeep k2 e4
  replace hrt := hrt.grown k2
  have k02 := k1.trans k2
  have art : Arr w2 (some ⟨gv, 0, none⟩) ts := by
    refine Or.inr ⟨gv, 0, rfl, fun j hj => ?_⟩
    have h := World.rowIs.cell hrt (i := j) (by omega)
    rw [show (ts ++ gdsV).getD j 0 = ts.getD j 0 from by simp [List.getD, List.getElem?_append, hj]] at h
    rw [Nat.zero_add]; exact h
  obtain ⟨Y, hY⟩ : ∃ Y, Y = ratW d neg (val ts) 1 exp := ⟨_, rfl⟩
  have h3 : Calls Tryd.prog 7 #[.int .i64 d, .bool neg, .slice (some ⟨gv, 0, none⟩) N (N + 40), .int .i64 exp] w2 fun e w' => e = .returned (.int .u64 (Y : Int)) ∧ Kp w2 w' := by
    rw [hY, ← hlt]; exact rof_ d neg _ _ ts exp w2 art hwt (by have := HX.out; omega) (by omega) HX.out.2.2.2.2.2.2.2.2.2.1 HX.out.2.2.2.2.2.2.2.2.2.2
  have hbY : ∀ w1 : World, Calls Tryd.prog 9 #[.float .f64 Y] w1 fun e w' => e = .returned (.int .u64 (Y : Int)) ∧ w' = w1 := fun w1 => by
    rw [hY, ← of_rat]; exact bitsV_ d neg (val ts) exp w1
  have HY : Hid (Y = ratW d neg (val ts) 1 exp ∧ ts.length = N ∧ Wd ts) := ⟨hY, hlt, hwt⟩
  clear h2 hwant hY hlt hwt
  go_wp2_with fail
  refine h3.mono ?_; rintro e w3 ⟨rfl, k3⟩
  replace e0 := kkeep k3 e0
  replace e1 := kkeep k3 e1
  replace e2 := kkeep k3 e2
  replace e4 := kkeep k3 e4
  replace hrt := hrt.grown k3
  replace art := art.grown k3
  have k03 := k02.trans k3
  have h4 := hroom w3 k03
  clear h3 hroom k1 k2 k3 k02
  go_wp2_with fail
  refine h4.mono ?_; rintro e w4 ⟨g, rfl, hg, hrow, k4⟩
  replace e0 := kkeep k4 e0
  replace e1 := kkeep k4 e1
  replace e2 := kkeep k4 e2
  replace e4 := kkeep k4 e4
  have artN : ArrN g w4 (some ⟨gv, 0, none⟩) ts := ArrN.of art k4 hg
  have axN : ArrN g w4 p xs := ArrN.of (hx0.grown k03) k4 hg
  have k04 := k03.trans k4
  replace hT := hT.grown k04
  replace hQ := hQ.grown k04
  have hBg : B ≠ g := by have := HX.out.2.2.2.2.2.2.1; have := Below.size k03; omega
  have hgw : w0.heap.size ≤ g := by have := Below.size k03; omega
  clear h4 k03 k4 hrt art
  have hof : ∀ w1 : World, Tab w1 → Fq.Tab w1 → Rw w1 g (N + 40) (xs ++ gdsV) → Calls Tryd.prog 10 #[.int .i64 d, .bool neg, .slice (some ⟨g, 0, none⟩) N (N + 40), .int .i64 exp] w1 fun r w' => r = .returned (.float .f64 X) ∧ Kp w1 w' := fun w1 t1 t2 hr1 => by
    obtain ⟨hN, hwx, lx, hc, hX, -, -, hd1, hd2, -, -⟩ := HX.out
    rw [hX, ← of_rat, hN]
    exact pof_ d neg _ _ xs exp w1 t1 t2 hd1 hd2 (row_arr hr1 (by omega)) hwx lx (by omega)
  have hoft : ∀ w1 : World, Tab w1 → Fq.Tab w1 → Rw w1 g (N + 40) (ts ++ gdsV) → Calls Tryd.prog 10 #[.int .i64 d, .bool neg, .slice (some ⟨g, 0, none⟩) N (N + 40), .int .i64 exp] w1 fun r w' => r = .returned (.float .f64 Y) ∧ Kp w1 w' := fun w1 t1 t2 hr1 => by
    obtain ⟨hN, hwx, lx, hc, hX, -, -, hd1, hd2, -, -⟩ := HX.out
    obtain ⟨hY, hlt, hwt⟩ := HY.out
    rw [hY, ← of_rat, ← hlt]
    exact pof_ d neg _ _ ts exp w1 t1 t2 hd1 hd2 (row_arr hr1 (by omega)) hwt (by omega) (by omega)
  have hlfx : ∀ w1 : World, ArrN g w1 p xs → Rw w1 g (N + 40) (xs ++ gdsV) → Calls Tryd.prog 11 #[.slice p N c, .slice (some ⟨g, 0, none⟩) (N + 40) (N + 40)] w1 fun r w' => r = .returned (.bool true) ∧ Kp w1 w' := fun w1 a r => by
    have hN := HX.out.1
    have h := leftV_ p c g xs w1 a.arr (by rw [← hN]; exact r) HX.out.2.2.1
    rw [← hN] at h; exact h
  have hlft : ∀ w1 : World, ArrN g w1 (some ⟨gv, 0, none⟩) ts → Rw w1 g (N + 40) (ts ++ gdsV) → Calls Tryd.prog 11 #[.slice (some ⟨gv, 0, none⟩) N (N + 40), .slice (some ⟨g, 0, none⟩) (N + 40) (N + 40)] w1 fun r w' => r = .returned (.bool true) ∧ Kp w1 w' := fun w1 a r => by
    have hlt := HY.out.2.1
    have h := leftV_ (some ⟨gv, 0, none⟩) (N + 40) g ts w1 a.arr (by rw [hlt]; exact r) (by have := HX.out; omega)
    rw [hlt] at h; exact h
  have hofx := hof
  have hlf := hlfx
  have kk := k04
  have hT2 : 2 ≠ g := by omega
  have hT1 : 1 ≠ g := by omega
  clear k04
  have hcall := hof _ hT hQ hrow
  go_wp2_with fail
  refine hcall.mono ?_; rintro e wa1 ⟨rfl, ka⟩; clear hcall
  replace e0 := kkeep ka e0
  replace e1 := kkeep ka e1
  replace e2 := kkeep ka e2
  replace e4 := kkeep ka e4
  replace hrow := hrow.grown ka
  replace axN := axN.grown ka
  replace artN := artN.grown ka
  replace hT := hT.grown ka
  replace hQ := hQ.grown ka
  replace kk := kk.trans ka
  clear ka
  go_wp2_with fail
  refine (hbX _).mono ?_; rintro e w' ⟨rfl, hw'⟩; obtain rfl := hw'.symm; clear hw'
  have hcall := hlf _ axN hrow
  go_wp2_with fail
  refine hcall.mono ?_; rintro e wa3 ⟨rfl, ka⟩; clear hcall
  replace e0 := kkeep ka e0
  replace e1 := kkeep ka e1
  replace e2 := kkeep ka e2
  replace e4 := kkeep ka e4
  replace hrow := hrow.grown ka
  replace axN := axN.grown ka
  replace artN := artN.grown ka
  replace hT := hT.grown ka
  replace hQ := hQ.grown ka
  replace kk := kk.trans ka
  clear ka
  have hcall := hof _ hT hQ hrow
  go_wp2_with fail
  refine hcall.mono ?_; rintro e wa4 ⟨rfl, ka⟩; clear hcall
  replace e0 := kkeep ka e0
  replace e1 := kkeep ka e1
  replace e2 := kkeep ka e2
  replace e4 := kkeep ka e4
  replace hrow := hrow.grown ka
  replace axN := axN.grown ka
  replace artN := artN.grown ka
  replace hT := hT.grown ka
  replace hQ := hQ.grown ka
  replace kk := kk.trans ka
  clear ka
  go_wp2_with fail
  refine (hbX _).mono ?_; rintro e w' ⟨rfl, hw'⟩; obtain rfl := hw'.symm; clear hw'
  have h6 := placeW_ g (N + 40) (N + 40) (some ⟨gv, 0, none⟩) xs ts gdsV _ hrow (by rw [HY.out.2.1, HX.out.1]) (by rw [List.length_append, ← HX.out.1, gdsV_len]) artN (by have := HX.out; omega)
  rw [HY.out.2.1, ← HX.out.1] at h6
  clear hof hlf
  go_wp2_with fail
  refine h6.mono ?_; rintro e w6 ⟨v6, rfl, hrow2, hkb⟩
  replace e0 := hkb.arr hBg e0
  replace e1 := hkb.arr hBg e1
  replace e2 := hkb.arr hBg e2
  replace e4 := hkb.arr hBg e4
  replace artN := artN.kb hkb
  replace axN := axN.kb hkb
  replace hT : Tab w6 := hT.kb hkb hT2
  replace hQ : Fq.Tab w6 := fun i hi => hkb.arr hT1 (hQ i hi)
  replace kk : Kp w0 w6 := hkb.kp kk hgw
  clear h6 hkb hrow
  have hrow := hrow2
  have hof := hoft
  have hlf := hlft
  clear hrow2 hoft hlft
  have hcall := hof _ hT hQ hrow
  go_wp2_with fail
  refine hcall.mono ?_; rintro e wa6 ⟨rfl, ka⟩; clear hcall
  replace e0 := kkeep ka e0
  replace e1 := kkeep ka e1
  replace e2 := kkeep ka e2
  replace e4 := kkeep ka e4
  replace hrow := hrow.grown ka
  replace axN := axN.grown ka
  replace artN := artN.grown ka
  replace hT := hT.grown ka
  replace hQ := hQ.grown ka
  replace kk := kk.trans ka
  clear ka
  go_wp2_with fail
  refine (hbY _).mono ?_; rintro e w' ⟨rfl, hw'⟩; obtain rfl := hw'.symm; clear hw'
  have hcall := hlf _ artN hrow
  go_wp2_with fail
  refine hcall.mono ?_; rintro e wa8 ⟨rfl, ka⟩; clear hcall
  replace e0 := kkeep ka e0
  replace e1 := kkeep ka e1
  replace e2 := kkeep ka e2
  replace e4 := kkeep ka e4
  replace hrow := hrow.grown ka
  replace axN := axN.grown ka
  replace artN := artN.grown ka
  replace hT := hT.grown ka
  replace hQ := hQ.grown ka
  replace kk := kk.trans ka
  clear ka
  have h8 := placeW_ g (N + 40) c p ts xs gdsV _ hrow (by rw [HY.out.2.1, HX.out.1]) (by rw [List.length_append, HY.out.2.1, gdsV_len]) axN (by have := HX.out; have := HY.out; omega)
  rw [HY.out.2.1, ← HX.out.1] at h8
  clear hof hlf
  go_wp2_with fail
  refine h8.mono ?_; rintro e w8 ⟨v8, rfl, hrow2, hkb⟩
  replace e0 := hkb.arr hBg e0
  replace e1 := hkb.arr hBg e1
  replace e2 := hkb.arr hBg e2
  replace e4 := hkb.arr hBg e4
  replace axN := axN.kb hkb
  replace hT : Tab w8 := hT.kb hkb hT2
  replace hQ : Fq.Tab w8 := fun i hi => hkb.arr hT1 (hQ i hi)
  replace kk : Kp w0 w8 := hkb.kp kk hgw
  clear h8 hkb hrow artN
  have hrow := hrow2
  have hof := hofx
  have hlf := hlfx
  clear hrow2 hofx hlfx
  have hcall := hof _ hT hQ hrow
  go_wp2_with fail
  refine hcall.mono ?_; rintro e wa9 ⟨rfl, ka⟩; clear hcall
  replace e0 := kkeep ka e0
  replace e1 := kkeep ka e1
  replace e2 := kkeep ka e2
  replace e4 := kkeep ka e4
  replace hrow := hrow.grown ka
  replace axN := axN.grown ka
  replace hT := hT.grown ka
  replace hQ := hQ.grown ka
  replace kk := kk.trans ka
  clear ka
  go_wp2_with fail
  refine (hbX _).mono ?_; rintro e w' ⟨rfl, hw'⟩; obtain rfl := hw'.symm; clear hw'
  have hcall := hlf _ axN hrow
  go_wp2_with fail
  refine hcall.mono ?_; rintro e wa11 ⟨rfl, ka⟩; clear hcall
  replace e0 := kkeep ka e0
  replace e1 := kkeep ka e1
  replace e2 := kkeep ka e2
  replace e4 := kkeep ka e4
  replace hrow := hrow.grown ka
  replace axN := axN.grown ka
  replace hT := hT.grown ka
  replace hQ := hQ.grown ka
  replace kk := kk.trans ka
  clear ka
  have k09 := hk0.trans kk
  clear hof hlf kk e0 e1 e2 e4 hrow axN hT hQ
  go_wp2
  exact bodyPost_ret (v := .bool true) (by simp [results, Tryd.results3, go_sem]) rfl ⟨rfl, k09⟩
end Go.Proofs.YtnkakbjndclkhaaDoor
