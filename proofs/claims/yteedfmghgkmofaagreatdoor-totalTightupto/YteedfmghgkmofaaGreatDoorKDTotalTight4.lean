import Derived.Test.YteedfmghgkmofaaGreatDoorKDTotalTight3
import Derived.WalkKit
import Derived.ProofKit
import Derived.RowKit3
import Derived.WalkSpells
import Derived.StillTactics
import Derived.Deep.QuietTactic
import Derived.BigQuiet
import Derived.Below
import Derived.Deep.WholeRow
import Derived.Deep.MidRow
import Derived.Laws.Externs
import Derived.Deep.Cut
import Derived.Deep.RegionWith
import Derived.Deep.RegionHeld3
import Derived.Laws.Bits64
import Derived.Lib.Zigzag
import Derived.Deep.OwnRows
import Derived.Laws.MakeOwn
import Derived.Deep.RegionHeld
namespace Go.Proofs.YteedfmghgkmofaaGreatDoor
open Go.RowKit
set_option linter.unusedVariables false
set_option maxRecDepth 20000 in
set_option maxHeartbeats 8000000 in
theorem ttightA_ (K : Nat) (hK : K = 1074) (p : Option Addr) (c : Nat) (L : List Tm) (hok : TmOk L) (h3 : 1000 < L.length) (M : Nat) (hM1 : 1 ≤ M) (hM2 : M < 9223372036854775808) (w : World) (ha : ArrT w p L) (hT : Tab w) (hQ : Fq.Tab w) : Calls Tryz.prog 6 #[.slice p L.length c, .int .i64 (M : Int)] w fun e w' => e = .returned (.bool true) ∧ Kp w w' := by
  have hlv := lives_ w hT hQ
  obtain ⟨N, hN⟩ : ∃ N, N = L.length := ⟨_, rfl⟩
  rw [← hN] at h3 ⊢
  have j9 : (1000 : Int) < (N : Int) := by omega
  have j7 : ¬ ((M : Int) < 1) := by omega
  have HT : Hid (Tab w ∧ Fq.Tab w) := ⟨hT, hQ⟩
  have HN0 : Hid (N = L.length ∧ ArrT w p L ∧ TmOk L ∧ K = 1074 ∧ 1000 ≤ N ∧ 1000 ≤ 1000) := ⟨hN, ha, hok, hK, by omega, by omega⟩
  clear hN ha hok hK hT hQ h3
  go_enter Tryz.func6, Tryz.ntmps6
  go_wp2_with fail
  refine hlv.mono ?_
  rintro e wa ⟨rfl, ga⟩
  go_wp2_with fail
  refine (fnew_ K _).mono ?_
  rintro e wb ⟨rfl, F0, gb⟩
  have hk : Kp w wb := ga.trans gb
  have hz : w.heap.size ≤ wa.heap.size := ga.size
  clear ga gb hlv
  generalize wa.heap.size = bs at *
  go_wp2_with fail
  refine (int0X_ (K + K) _).mono ?_
  rintro e wc_ ⟨s1, p1, l1, c1, q1, k1, d1, rfl, hD0, gc⟩
  have hbs : bs < wb.heap.size := F0.lt
  have HS : Hid (Fs (wc_.alloc (.cells #[.bool s1, .slice p1 l1 c1, .slice q1 k1 d1] 43)) bs (tsV K (L.take 0)) 0 K ∧ Qs (wc_.alloc (.cells #[.bool s1, .slice p1 l1 c1, .slice q1 k1 d1] 43)) wc_.heap.size bs (tsV K (L.take 0)) (K + K) ∧ Kp w (wc_.alloc (.cells #[.bool s1, .slice p1 l1 c1, .slice q1 k1 d1] 43))) :=
    ⟨by simpa [tsV] using (F0.kp gc).kp ((Kp.refl _).alloc _), by simpa [tsV] using (show Qs (wc_.alloc (.cells #[.bool s1, .slice p1 l1 c1, .slice q1 k1 d1] 43)) wc_.heap.size bs 0 (K + K) from ⟨s1, p1, l1, c1, q1, k1, d1, H3c.new _ _ _ _ _, (hD0.mono (Nat.zero_le _)).kp ((Kp.refl _).alloc _), hD0.nbNew (Nat.le_refl _), hD0.nbLow hbs⟩), (hk.trans gc).alloc _⟩
  obtain ⟨hN, ha, hok, hK, hkN, hk3⟩ := HN0.out
  have HN : Hid (N = L.length ∧ ArrT w p L ∧ TmOk L ∧ w.heap.size ≤ bs ∧ 1000 ≤ N ∧ 1000 ≤ 1000 ∧ K = 1074 ∧ bs < wc_.heap.size) := ⟨hN, ha, hok, hz, hkN, hk3, hK, by have := gc.size; omega⟩
  clear HN0 hN ha hok hK hkN hk3 F0 hk hz hD0 gc hbs
  go_wp2_with fail
  generalize wc_.alloc (.cells #[.bool s1, .slice p1 l1 c1, .slice q1 k1 d1] 43) = wd at *
  generalize wc_.heap.size = bq at *
  go_loopw [8, 9, 10] (fun ii tt xx wr => ∃ i : Nat, ii = .int .i64 (i : Int) ∧ i ≤ 1000 ∧ Fs wr bs (tsV K (L.take i)) i K ∧ Qs wr bq bs (tsV K (L.take i)) (K + K) ∧ Kp w wr) (fun i _ _ _ => 1000 - (intOf i).toNat)
  case atStart => exact ⟨0, rfl, Nat.zero_le _, HS.out.1, HS.out.2.1, HS.out.2.2⟩
  case round =>
    obtain ⟨i, rfl, hi, hF, hQ1, hk⟩ := hrel
    clear HS
    obtain ⟨hN, ha, hok, hz, hkN, hk3, hK, hbq⟩ := HN.out
    by_cases ci : i < 1000
    · obtain ⟨oX, oY⟩ := hok i (by omega)
      have hts := tsV_take K L i (by omega)
      rcases ha with ha | ⟨bl, off, rfl, ha⟩
      · rw [ha] at hN; simp at hN; omega
      obtain ⟨e0, e1, e2⟩ := ha i (by omega)
      have e0 := kkeep hk e0
      have e1 := kkeep hk e1
      have e2 := kkeep hk e2
      obtain ⟨X, hX⟩ : ∃ X, X = (L.getD i (0, 0, false)).1 := ⟨_, rfl⟩
      obtain ⟨Y, hY⟩ : ∃ Y, Y = (L.getD i (0, 0, false)).2.1 := ⟨_, rfl⟩
      obtain ⟨pr, hpr⟩ : ∃ pr, pr = (L.getD i (0, 0, false)).2.2 := ⟨_, rfl⟩
      unfold tnV at hts
      rw [← hX] at e0 oX hts
      rw [← hY] at e1 oY hts
      rw [← hpr] at e2 hts
      have hnX := number4_ X oX
      have hnY := number4_ Y oY
      have j1 : (i : Int) < 1000 := by omega
      have j2 : i + 1 ≤ 1000 := by omega
      have j3 : 1000 - (i + 1) < 1000 - i := by omega
      have j4 : i < N := by omega
      have j5 : (i : Int) < (N : Int) := by omega
      have j6 : i + 1 ≤ 1000 := by omega
      have e0 : wr.drew.cell? ⟨bl, off + i * 3, none⟩ = some (.int .u64 (X : Int)) := e0
      have e1 : wr.drew.cell? ⟨bl, off + i * 3 + 1, none⟩ = some (.int .u64 (Y : Int)) := e1
      have e2 : wr.drew.cell? ⟨bl, off + i * 3 + 2, none⟩ = some (.bool pr) := e2
      obtain ⟨n1, m1, hm1, hn1⟩ := Fq.exD (nmP X) (nmP_lt X oX)
      obtain ⟨n2, m2, hm2, hn2⟩ := Fq.exD (nmP Y) (nmP_lt Y oY)
      have f1 := nmP_fin X
      have f2 := nmP_fin Y
      have l1 := nmP_lt X oX
      have l2 := nmP_lt Y oY
      rw [hn1] at hts hnX f1 l1
      rw [hn2] at hts hnY f2 l2
      have g1 : m1 < 9218868437227405312 := by rw [(wD_parts n1 m1 hm1).1] at f1; exact f1
      have g2 : m2 < 9218868437227405312 := by rw [(wD_parts n2 m2 hm2).1] at f2; exact f2
      have HR : Hid (Fs wr bs (tsV K (L.take i)) i K ∧ Qs wr bq bs (tsV K (L.take i)) (K + K) ∧ Kp w wr ∧ w.heap.size ≤ bs ∧ bs < bq ∧ K = 1074 ∧ tsV K (L.take (i + 1)) = tsV K (L.take i) + tkV K (Fq.wD n1 m1) (Fq.wD n2 m2) pr ∧ Fq.wD n1 m1 < 18446744073709551616 ∧ Fq.wD n2 m2 < 18446744073709551616 ∧ m1 < 9218868437227405312 ∧ m2 < 9218868437227405312 ∧ Fq.wD n1 m1 % 9223372036854775808 < 9218868437227405312 ∧ Fq.wD n2 m2 % 9223372036854775808 < 9218868437227405312) := ⟨hF, hQ1, hk, hz, hbq, hK, hts, l1, l2, g1, g2, f1, f2⟩
      clear hN ha hok hz hkN hK hi hts hX hY hpr hF hQ1 ci hk hm1 hm2 hn1 hn2 f1 f2 g1 g2 l1 l2 oX oY hbq
      obtain ⟨WX, hWX⟩ : ∃ WX : Int, WX = ((Fq.wD n1 m1 : Nat) : Int) := ⟨_, rfl⟩
      obtain ⟨WY, hWY⟩ : ∃ WY : Int, WY = ((Fq.wD n2 m2 : Nat) : Int) := ⟨_, rfl⟩
      rw [← hWX] at hnX
      rw [← hWY] at hnY
      have HW : Hid (WX = ((Fq.wD n1 m1 : Nat) : Int) ∧ WY = ((Fq.wD n2 m2 : Nat) : Int)) := ⟨hWX, hWY⟩
      clear hWX hWY
      go_upto_region 11 with fail
      go_region_held3 (fun w' => w'.cell? ⟨bl, off + i * 3, none⟩ = some (.int .u64 (X : Int)) ∧ w'.cell? ⟨bl, off + i * 3 + 1, none⟩ = some (.int .u64 (Y : Int)) ∧ w'.cell? ⟨bl, off + i * 3 + 2, none⟩ = some (.bool pr)) (first | (with_reducible exact ⟨e0, e1, e2⟩) | go_keep) (first | (go_at_call_of 37 (Value.int IntKind.u64 (X : Int)); refine (hnX _).mono ?_; rintro e w' ⟨rfl, hw'⟩; obtain rfl := hw'.symm; clear hw') | (go_at_call_of 37 (Value.int IntKind.u64 (Y : Int)); refine (hnY _).mono ?_; rintro e w' ⟨rfl, hw'⟩; obtain rfl := hw'.symm; clear hw'))
      all_goals (
        cases pr
        · obtain ⟨hF, hQ1, hk, hz, hbq, hK, hts, l1_, l2_, g1, g2, f1, f2⟩ := HR.out
          have t0 : (wr.alloc (.cells #[.int .u64 WX, .int .u64 WY, .bool false] 68)).drew.cell? ⟨wr.heap.size, 0, none⟩ = some (.int .u64 WX) := by simp [go_sem]
          have t1 : (wr.alloc (.cells #[.int .u64 WX, .int .u64 WY, .bool false] 68)).drew.cell? ⟨wr.heap.size, 1, none⟩ = some (.int .u64 WY) := by simp [go_sem]
          have t2 : (wr.alloc (.cells #[.int .u64 WX, .int .u64 WY, .bool false] 68)).drew.cell? ⟨wr.heap.size, 2, none⟩ = some (.bool false) := by simp [go_sem]
          have gA : Kp wr (wr.alloc (.cells #[.int .u64 WX, .int .u64 WY, .bool false] 68)).drew := ((Kp.refl wr).alloc _).drew
          have hbt : bs < wr.heap.size := hF.lt
          generalize (wr.alloc (.cells #[.int .u64 WX, .int .u64 WY, .bool false] 68)).drew = W1 at *
          generalize wr.heap.size = bt at *
          replace hF := hF.kp gA
          replace hQ1 := hQ1.kp gA
          replace hk := hk.trans gA
          have htk := ftake4_ (Fq.wD n1 m1) (Fq.wD n2 m2) false K hK l1_ l2_ f1 f2 bs _ i (by omega) W1 hF
          rw [← hts, ← HW.out.1, ← HW.out.2] at htk
          have HP : Hid (Qs W1 bq bs (tsV K (L.take i)) (K + K) ∧ Kp w W1 ∧ bs < bt ∧ (tsV K (L.take i)).natAbs < 2 ^ (K + K + 2058)) := ⟨hQ1, hk, hbt, fs_b hF hK (by omega)⟩
          clear hF hQ1 hk hz hbq hK hts l1_ l2_ g1 g2 f1 f2 gA hbt
          go_wp2_with fail
          refine htk.mono ?_
          rintro e W2 ⟨⟨v2, rfl⟩, hF, kb⟩
          obtain ⟨hQ1, hk, hbt, hVb⟩ := HP.out
          obtain ⟨-, -, -, hz, hbq, hK, hts, l1_, l2_, g1, g2, f1, f2⟩ := HR.out
          replace hQ1 := hQ1.kb kb (by omega)
          replace hk := kb.kp hk hz
          replace t0 := kb.arr (show bt ≠ bs by omega) t0
          replace t1 := kb.arr (show bt ≠ bs by omega) t1
          replace t2 := kb.arr (show bt ≠ bs by omega) t2
          have hfx := dyfrom_ n1 m1 K hK g1 W2
          rw [← HW.out.1] at hfx
          clear HP htk kb
          have HP : Hid (Fs W2 bs (tsV K (L.take (i + 1))) (i + 1) K ∧ Qs W2 bq bs (tsV K (L.take i)) (K + K) ∧ Kp w W2 ∧ (tsV K (L.take i)).natAbs < 2 ^ (K + K + 2058)) := ⟨hF, hQ1, hk, hVb⟩
          clear hF hQ1 hk hbt hVb hz hbq hK hts l1_ l2_ g1 g2 f1 f2
          go_wp2_with fail
          refine hfx.mono ?_
          rintro e W3 ⟨s3, p3, l3, c3, q3, k3_, d3, rfl, D3, g3⟩
          obtain ⟨hF, hQ1, hk, hVb⟩ := HP.out
          obtain ⟨s5, p5, l5, c5, q5, k5_, d5, hq, hDq, hnb1, hnb2⟩ := hQ1
          replace hF := hF.kp g3
          replace hq := hq.keep g3
          replace hDq := hDq.kp g3
          replace hk := hk.trans g3
          replace t0 := kkeep g3 t0
          replace t1 := kkeep g3 t1
          replace t2 := kkeep g3 t2
          have hx := H3c.new W3 (.bool s3) (.slice p3 l3 c3) (.slice q3 k3_ d3) 43
          have gB : Kp W3 (W3.alloc (.cells #[.bool s3, .slice p3 l3 c3, .slice q3 k3_ d3] 43)) := (Kp.refl W3).alloc _
          have hnb := hDq.nbNew (Nat.le_refl _)
          have hbx : bq < W3.heap.size := hq.lt
          have hbtx : bt < W3.heap.size := cell_lt t0
          clear g3 hfx HP
          go_upto_region 14 with fail
          generalize W3.alloc (.cells #[.bool s3, .slice p3 l3 c3, .slice q3 k3_ d3] 43) = W4 at *
          have D3 := D3.mono (Nat.zero_le _)
          replace hF := hF.kp gB
          replace hq := hq.keep gB
          replace hDq := hDq.kp gB
          replace D3 := D3.kp gB
          replace hk := hk.trans gB
          replace t0 := kkeep gB t0
          replace t1 := kkeep gB t1
          replace t2 := kkeep gB t2
          generalize W3.heap.size = bx at *
          clear gB hnb1 hnb2
          obtain ⟨-, -, -, hz, hbq, hK, hts, l1_, l2_, g1, g2, f1, f2⟩ := HR.out
          have hXb := tk_b K hK (Fq.wD n1 m1) (Fq.wD n2 m2) false
          have hxv : tkV K (Fq.wD n1 m1) (Fq.wD n2 m2) false = Iv n1 m1 * ((2 ^ K : Nat) : Int) := by
            unfold tkV; simp only [Bool.false_eq_true, if_false]; rw [xV_fin n1 m1 K g1]; rfl
          have hDx : Dy 0 W4 s3 p3 l3 c3 q3 k3_ d3 (Iv n1 m1 * ((2 ^ K : Nat) : Int)) (K + K) := D3.up K
          rw [hxv] at hts hXb
          generalize Iv n1 m1 * ((2 ^ K : Nat) : Int) = XV at *
          have hVV := hts
          clear hz hbq hK hts l1_ l2_ g1 g2 f1 f2 hxv D3 hbx
          obtain ⟨u0, u1, u2, u3, u4, u5⟩ := id hq
          obtain ⟨y0, y1, y2, y3, y4, y5⟩ := id hx
          have hra := dyadd_ s5 p5 l5 c5 q5 k5_ d5 s3 p3 l3 c3 q3 k3_ d3 (tsV K (L.take i)) _ (K + K) (K + K + 2058) (by have := HR.out.2.2.2.2.2.1; omega) (by have := HR.out.2.2.2.2.2.1; omega) hVb hXb 0 0 W4 hDq hDx
          have HY : Hid (H3c W4 bq (.bool s5) (.slice p5 l5 c5) (.slice q5 k5_ d5) ∧ Fs W4 bs (tsV K (L.take (i + 1))) (i + 1) K ∧ Kp w W4 ∧ w.heap.size ≤ bs ∧ bs < bq ∧ tsV K (L.take (i + 1)) = tsV K (L.take i) + XV) := ⟨hq, hF, hk, HR.out.2.2.2.1, HR.out.2.2.2.2.1, hVV⟩
          clear hq hx hF hk hDq hDx hVb hXb hVV hnb HR
          go_wp2_with fail
          refine hra.mono ?_
          rintro e W8 ⟨s8, p8, l8, c8, q8, k8_, d8, rfl, D8, g8⟩
          obtain ⟨hq, hF, hk, hz, hbq, hVV⟩ := HY.out
          have hql : bq < W4.heap.size := hq.lt
          replace hq := hq.keep g8
          have kbs : Kb bq W8 (((W8.setCell ⟨bq, 0, none⟩ (.bool s8)).setCell ⟨bq, 1, none⟩ (.slice p8 l8 c8)).setCell ⟨bq, 2, none⟩ (.slice q8 k8_ d8)) := ((((Kb.refl bq W8).setCell 0 _).setCell 1 _).setCell 2 _)
          have HZ : Hid (Fs (((W8.setCell ⟨bq, 0, none⟩ (.bool s8)).setCell ⟨bq, 1, none⟩ (.slice p8 l8 c8)).setCell ⟨bq, 2, none⟩ (.slice q8 k8_ d8)) bs (tsV K (L.take (i + 1))) (i + 1) K ∧ Qs (((W8.setCell ⟨bq, 0, none⟩ (.bool s8)).setCell ⟨bq, 1, none⟩ (.slice p8 l8 c8)).setCell ⟨bq, 2, none⟩ (.slice q8 k8_ d8)) bq bs (tsV K (L.take (i + 1))) (K + K) ∧ Kp w (((W8.setCell ⟨bq, 0, none⟩ (.bool s8)).setCell ⟨bq, 1, none⟩ (.slice p8 l8 c8)).setCell ⟨bq, 2, none⟩ (.slice q8 k8_ d8))) :=
            ⟨(hF.kp g8).kb kbs (by omega), ⟨s8, p8, l8, c8, q8, k8_, d8, hq.put _ _ _, by rw [hVV]; exact (D8.mono (Nat.zero_le _)).kb kbs (D8.nbLow hql), D8.nbLow hql, D8.nbLow (by omega)⟩, kbs.kp (hk.trans g8) (by omega)⟩
          obtain ⟨v0, v1, v2, v3, v4, v5⟩ := hq
          clear hF hk hz hbq hVV hql kbs HY hra g8 D8
          go_wp2
          exact ⟨⟨i + 1, by go_num, j2, HZ.out.1, HZ.out.2.1, HZ.out.2.2⟩, (show 1000 - (i + 1) < 1000 - i from j3)⟩
        · obtain ⟨hF, hQ1, hk, hz, hbq, hK, hts, l1_, l2_, g1, g2, f1, f2⟩ := HR.out
          have t0 : (wr.alloc (.cells #[.int .u64 WX, .int .u64 WY, .bool true] 68)).drew.cell? ⟨wr.heap.size, 0, none⟩ = some (.int .u64 WX) := by simp [go_sem]
          have t1 : (wr.alloc (.cells #[.int .u64 WX, .int .u64 WY, .bool true] 68)).drew.cell? ⟨wr.heap.size, 1, none⟩ = some (.int .u64 WY) := by simp [go_sem]
          have t2 : (wr.alloc (.cells #[.int .u64 WX, .int .u64 WY, .bool true] 68)).drew.cell? ⟨wr.heap.size, 2, none⟩ = some (.bool true) := by simp [go_sem]
          have gA : Kp wr (wr.alloc (.cells #[.int .u64 WX, .int .u64 WY, .bool true] 68)).drew := ((Kp.refl wr).alloc _).drew
          have hbt : bs < wr.heap.size := hF.lt
          generalize (wr.alloc (.cells #[.int .u64 WX, .int .u64 WY, .bool true] 68)).drew = W1 at *
          generalize wr.heap.size = bt at *
          replace hF := hF.kp gA
          replace hQ1 := hQ1.kp gA
          replace hk := hk.trans gA
          have htk := ftake4_ (Fq.wD n1 m1) (Fq.wD n2 m2) true K hK l1_ l2_ f1 f2 bs _ i (by omega) W1 hF
          rw [← hts, ← HW.out.1, ← HW.out.2] at htk
          have HP : Hid (Qs W1 bq bs (tsV K (L.take i)) (K + K) ∧ Kp w W1 ∧ bs < bt ∧ (tsV K (L.take i)).natAbs < 2 ^ (K + K + 2058)) := ⟨hQ1, hk, hbt, fs_b hF hK (by omega)⟩
          clear hF hQ1 hk hz hbq hK hts l1_ l2_ g1 g2 f1 f2 gA hbt
          go_wp2_with fail
          refine htk.mono ?_
          rintro e W2 ⟨⟨v2, rfl⟩, hF, kb⟩
          obtain ⟨hQ1, hk, hbt, hVb⟩ := HP.out
          obtain ⟨-, -, -, hz, hbq, hK, hts, l1_, l2_, g1, g2, f1, f2⟩ := HR.out
          replace hQ1 := hQ1.kb kb (by omega)
          replace hk := kb.kp hk hz
          replace t0 := kb.arr (show bt ≠ bs by omega) t0
          replace t1 := kb.arr (show bt ≠ bs by omega) t1
          replace t2 := kb.arr (show bt ≠ bs by omega) t2
          have hfx := dyfrom_ n1 m1 K hK g1 W2
          rw [← HW.out.1] at hfx
          clear HP htk kb
          have HP : Hid (Fs W2 bs (tsV K (L.take (i + 1))) (i + 1) K ∧ Qs W2 bq bs (tsV K (L.take i)) (K + K) ∧ Kp w W2 ∧ (tsV K (L.take i)).natAbs < 2 ^ (K + K + 2058)) := ⟨hF, hQ1, hk, hVb⟩
          clear hF hQ1 hk hbt hVb hz hbq hK hts l1_ l2_ g1 g2 f1 f2
          go_wp2_with fail
          refine hfx.mono ?_
          rintro e W3 ⟨s3, p3, l3, c3, q3, k3_, d3, rfl, D3, g3⟩
          obtain ⟨hF, hQ1, hk, hVb⟩ := HP.out
          obtain ⟨s5, p5, l5, c5, q5, k5_, d5, hq, hDq, hnb1, hnb2⟩ := hQ1
          replace hF := hF.kp g3
          replace hq := hq.keep g3
          replace hDq := hDq.kp g3
          replace hk := hk.trans g3
          replace t0 := kkeep g3 t0
          replace t1 := kkeep g3 t1
          replace t2 := kkeep g3 t2
          have hx := H3c.new W3 (.bool s3) (.slice p3 l3 c3) (.slice q3 k3_ d3) 43
          have gB : Kp W3 (W3.alloc (.cells #[.bool s3, .slice p3 l3 c3, .slice q3 k3_ d3] 43)) := (Kp.refl W3).alloc _
          have hnb := hDq.nbNew (Nat.le_refl _)
          have hbx : bq < W3.heap.size := hq.lt
          have hbtx : bt < W3.heap.size := cell_lt t0
          clear g3 hfx HP
          go_upto_region 14 with fail
          generalize W3.alloc (.cells #[.bool s3, .slice p3 l3 c3, .slice q3 k3_ d3] 43) = W4 at *
          have D3 := D3.mono (Nat.zero_le _)
          replace hF := hF.kp gB
          replace hq := hq.keep gB
          replace hDq := hDq.kp gB
          replace D3 := D3.kp gB
          replace hk := hk.trans gB
          replace t0 := kkeep gB t0
          replace t1 := kkeep gB t1
          replace t2 := kkeep gB t2
          generalize W3.heap.size = bx at *
          clear gB hnb1 hnb2
          obtain ⟨-, -, -, hz, hbq, hK, hts, l1_, l2_, g1, g2, f1, f2⟩ := HR.out
          have hXb := tk_b K hK (Fq.wD n1 m1) (Fq.wD n2 m2) true
          have hxv : tkV K (Fq.wD n1 m1) (Fq.wD n2 m2) true = Iv n1 m1 * Iv n2 m2 := by
            unfold tkV; simp only [if_true]; exact yV_fin n1 n2 m1 m2 g1 g2
          have hi1 := iv_lt n1 m1 K hK g1
          have hi2 := iv_lt n2 m2 K hK g2
          have hfy := dyfrom_ n2 m2 K hK g2 W4.drew
          rw [← HW.out.2] at hfy
          have hrm := fun (W : World) (s9 : Bool) (p9 : Option Addr) (l9 c9 : Nat) (q9 : Option Addr) (k9_ d9 b : Nat) (g : Kp W4.drew W) (h : Dy b W s9 p9 l9 c9 q9 k9_ d9 (Iv n2 m2) K) => dymul_ s3 p3 l3 c3 q3 k3_ d3 s9 p9 l9 c9 q9 k9_ d9 (Iv n1 m1) (Iv n2 m2) K (K + 1024) (by omega) (by omega) hi1 hi2 0 b W (D3.kp ((Kp.refl W4).drew.trans g)) h
          rw [hxv] at hts hXb
          generalize Iv n1 m1 * Iv n2 m2 = XV at *
          have HP : Hid (Fs W4 bs (tsV K (L.take (i + 1))) (i + 1) K ∧ H3c W4 bq (.bool s5) (.slice p5 l5 c5) (.slice q5 k5_ d5) ∧ Dy 0 W4 s5 p5 l5 c5 q5 k5_ d5 (tsV K (L.take i)) (K + K) ∧ NB p5 q5 bx ∧ Kp w W4 ∧ (tsV K (L.take i)).natAbs < 2 ^ (K + K + 2058) ∧ XV.natAbs < 2 ^ (K + K + 2058) ∧ tsV K (L.take (i + 1)) = tsV K (L.take i) + XV ∧ H3c W4 bx (.bool s3) (.slice p3 l3 c3) (.slice q3 k3_ d3) ∧ bq < bx) := ⟨hF, hq, hDq, hnb, hk, hVb, hXb, hts, hx, hbx⟩
          obtain ⟨y0, y1, y2, y3, y4, y5⟩ := hx
          clear hF hq hDq hnb hk hVb hXb hts hz hbq hK l1_ l2_ g1 g2 f1 f2 hxv D3 hbx hi1 hi2
          go_upto_region 15 with fail
          have y0 : W4.drew.cell? ⟨bx, 0, none⟩ = some (.bool s3) := y0
          have y1 : W4.drew.cell? ⟨bx, 1, none⟩ = some (.slice p3 l3 c3) := y1
          have y2 : W4.drew.cell? ⟨bx, 2, none⟩ = some (.slice q3 k3_ d3) := y2
          have t1 : W4.drew.cell? ⟨bt, 1, none⟩ = some (.int .u64 WY) := t1
          go_region_with (first | (go_at_call 38; refine hfy.mono ?_; rintro e W5 ⟨s9, p9, l9, c9, q9, k9_, d9, rfl, D9, k9⟩; have x0 := kkeep k9 y0; have x1 := kkeep k9 y1; have x2 := kkeep k9 y2) | (go_at_call 39; refine (hrm _ _ _ _ _ _ _ _ _ k9 D9).mono ?_; rintro e W6 ⟨s6, p6, l6, c6, q6, k6_, d6, rfl, D6, g6⟩; have k6 := k9.trans g6; have HX := H3c.keep HP.out.2.2.2.2.2.2.2.2.1 ((Kp.refl W4).drew.trans k6); obtain ⟨z0, z1, z2, z3, z4, z5⟩ := id HX))
          all_goals (
            obtain ⟨hF, hq, hDq, hnb, hk, hVb, hXb, hVV, -, hbx⟩ := HP.out
            have g4 := (Kp.refl W4).drew.trans k6
            have hbl : bx < W5.heap.size := cell_lt (kkeep k9 y0)
            have hz := HR.out.2.2.2.1
            have hbq := HR.out.2.2.2.2.1
            have kbs : Kb bx W6 (((W6.setCell ⟨bx, 0, none⟩ (.bool s6)).setCell ⟨bx, 1, none⟩ (.slice p6 l6 c6)).setCell ⟨bx, 2, none⟩ (.slice q6 k6_ d6)) := ((((Kb.refl bx W6).setCell 0 _).setCell 1 _).setCell 2 _)
            replace hF := (hF.kp g4).kb kbs (by omega)
            replace hq := (hq.keep g4).kb kbs (by omega)
            replace hDq := (hDq.kp g4).kb kbs hnb
            replace hk := kbs.kp (hk.trans g4) (by omega)
            have hx := HX.put (.bool s6) (.slice p6 l6 c6) (.slice q6 k6_ d6)
            have hDx := (D6.mono (Nat.zero_le _)).kb kbs (D6.nbLow hbl)
            clear z0 z1 z2 z3 z4 z5 HX g4 hbl hz hbq kbs y0 y1 y2 y3 y4 y5 k6 k9 g6 D6 D9 HP hrm hfy
            generalize (((W6.setCell ⟨bx, 0, none⟩ (.bool s6)).setCell ⟨bx, 1, none⟩ (.slice p6 l6 c6)).setCell ⟨bx, 2, none⟩ (.slice q6 k6_ d6)) = W7 at *
            obtain ⟨u0, u1, u2, u3, u4, u5⟩ := id hq
            obtain ⟨y0, y1, y2, y3, y4, y5⟩ := id hx
            have hra := dyadd_ s5 p5 l5 c5 q5 k5_ d5 s6 p6 l6 c6 q6 k6_ d6 (tsV K (L.take i)) _ (K + K) (K + K + 2058) (by have := HR.out.2.2.2.2.2.1; omega) (by have := HR.out.2.2.2.2.2.1; omega) hVb hXb 0 0 W7 hDq hDx
            have HY : Hid (H3c W7 bq (.bool s5) (.slice p5 l5 c5) (.slice q5 k5_ d5) ∧ Fs W7 bs (tsV K (L.take (i + 1))) (i + 1) K ∧ Kp w W7 ∧ w.heap.size ≤ bs ∧ bs < bq ∧ tsV K (L.take (i + 1)) = tsV K (L.take i) + XV) := ⟨hq, hF, hk, HR.out.2.2.2.1, HR.out.2.2.2.2.1, hVV⟩
            clear hq hx hF hk hDq hDx hVb hXb hVV hnb HR
            go_wp2_with fail
            refine hra.mono ?_
            rintro e W8 ⟨s8, p8, l8, c8, q8, k8_, d8, rfl, D8, g8⟩
            obtain ⟨hq, hF, hk, hz, hbq, hVV⟩ := HY.out
            have hql : bq < W7.heap.size := hq.lt
            replace hq := hq.keep g8
            have kbs : Kb bq W8 (((W8.setCell ⟨bq, 0, none⟩ (.bool s8)).setCell ⟨bq, 1, none⟩ (.slice p8 l8 c8)).setCell ⟨bq, 2, none⟩ (.slice q8 k8_ d8)) := ((((Kb.refl bq W8).setCell 0 _).setCell 1 _).setCell 2 _)
            have HZ : Hid (Fs (((W8.setCell ⟨bq, 0, none⟩ (.bool s8)).setCell ⟨bq, 1, none⟩ (.slice p8 l8 c8)).setCell ⟨bq, 2, none⟩ (.slice q8 k8_ d8)) bs (tsV K (L.take (i + 1))) (i + 1) K ∧ Qs (((W8.setCell ⟨bq, 0, none⟩ (.bool s8)).setCell ⟨bq, 1, none⟩ (.slice p8 l8 c8)).setCell ⟨bq, 2, none⟩ (.slice q8 k8_ d8)) bq bs (tsV K (L.take (i + 1))) (K + K) ∧ Kp w (((W8.setCell ⟨bq, 0, none⟩ (.bool s8)).setCell ⟨bq, 1, none⟩ (.slice p8 l8 c8)).setCell ⟨bq, 2, none⟩ (.slice q8 k8_ d8))) :=
              ⟨(hF.kp g8).kb kbs (by omega), ⟨s8, p8, l8, c8, q8, k8_, d8, hq.put _ _ _, by rw [hVV]; exact (D8.mono (Nat.zero_le _)).kb kbs (D8.nbLow hql), D8.nbLow hql, D8.nbLow (by omega)⟩, kbs.kp (hk.trans g8) (by omega)⟩
            obtain ⟨v0, v1, v2, v3, v4, v5⟩ := hq
            clear hF hk hz hbq hVV hql kbs HY hra g8 D8
            go_wp2
            exact ⟨⟨i + 1, by go_num, j2, HZ.out.1, HZ.out.2.1, HZ.out.2.2⟩, (show 1000 - (i + 1) < 1000 - i from j3)⟩))
    · have hik : i = 1000 := by omega
      have t1 : ¬ ((i : Int) < 1000) := by omega
      rw [hik] at hF hQ1
      obtain ⟨hT, hQ⟩ := HT.out
      obtain ⟨s5, p5, l5, c5, q5, k5_, d5, h3, hDq, -, -⟩ := hQ1
      have hVb := fs_b hF hK hk3
      clear hN ha hok hz hkN hbq hi ci hik
      generalize tsV K (L.take 1000) = V at *
      have hX := hDq.xp (K + K + 2058) hVb (by omega)
      have hpw : 2 ^ (K + K) = 2 ^ K * 2 ^ K := Nat.pow_add ..
      have hp1 := Nat.two_pow_pos K
      have hp2 : 0 < M * 2 ^ K := Nat.mul_pos (by omega) hp1
      have kr : Kp wr wr.drew := (Kp.refl wr).drew
      have kd : Kp wr.drew wr.drew := Kp.refl _
      have kwr : Kp w wr.drew := hk.drew
      have hA1 := ab_g (2 ^ K) hp1 V
      have hA2 := ab_g (M * 2 ^ K) hp2 V
      have hsg := fun (W : World) (g : Kp wr.drew W) => fsign_ K hK bs V 1000 W (hF.kp (kr.trans g))
      have hrs := fun (W : World) (g : Kp wr.drew W) => dysign_ s5 p5 l5 c5 q5 k5_ d5 V (K + K) (K + K + 2058) (by omega) hVb 0 W (hDq.kp (kr.trans g))
      have hrD := fun (W : World) (g : Kp wr.drew W) => fround_ (-1) (by decide) (by decide) K hK bs V 1000 W (hF.kp (kr.trans g)) (hT.grown (kwr.trans g)) (Fq.Tab.grown hQ (kwr.trans g))
      have hrU := fun (W : World) (g : Kp wr.drew W) => fround_ 1 (by decide) (by decide) K hK bs V 1000 W (hF.kp (kr.trans g)) (hT.grown (kwr.trans g)) (Fq.Tab.grown hQ (kwr.trans g))
      rw [fmaW_g K hK (-1) V] at hrD
      rw [fmaW_g K hK 1 V] at hrU
      have hoD := fun (W : World) (g : Kp wr.drew W) => fover_ (-1) (by decide) (by decide) M hM1 hM2 K hK bs V 1000 W (hF.kp (kr.trans g)) (Fq.Tab.grown hQ (kwr.trans g))
      have hoU := fun (W : World) (g : Kp wr.drew W) => fover_ 1 (by decide) (by decide) M hM1 hM2 K hK bs V 1000 W (hF.kp (kr.trans g)) (Fq.Tab.grown hQ (kwr.trans g))
      have hl := len_b V.natAbs 16384 (K + K + 2058) hVb (by omega)
      have hl2 := len_b M 16384 64 (by omega) (by decide)
      rw [ratW_g K hK (-1) V M hM1 hl hl2] at hoD
      rw [ratW_g K hK 1 V M hM1 hl hl2] at hoU
      generalize g53 (-1) 1 (2 ^ K) V = L1 at *
      generalize g53 1 1 (2 ^ K) V = H1 at *
      generalize g53 (-1) 1 (M * 2 ^ K) V = L2 at *
      generalize g53 1 1 (M * 2 ^ K) V = H2 at *
      have hbD := fun (W : World) => bits4_ (pz L1) (self_pz L1 (by rcases hA1 with h | h <;> omega)) W
      have hbU := fun (W : World) => bits4_ (pz H1) (self_pz H1 (by rcases hA1 with h | h <;> omega)) W
      have hcD := fun (W : World) => bits4_ (pz L2) (self_pz L2 (by rcases hA2 with h | h <;> omega)) W
      have hcU := fun (W : World) => bits4_ (pz H2) (self_pz H2 (by rcases hA2 with h | h <;> omega)) W
      have hX2 : XP 0 wr s5 p5 l5 c5 q5 k5_ d5 V (2 ^ K * 2 ^ K) (K + K + 2058) := by rw [← hpw]; exact hX
      have hab1 := fun (W : World) (g : Kp wr.drew W) => about4_ K hK V (2 ^ K) (K + K + 2058) hp1 (by omega) L1 H1 hA1 s5 p5 l5 c5 q5 k5_ d5 0 W (hX2.kp (kr.trans g))
      have hI : ∀ W : World, Calls Tryz.prog 36 #[.int .i64 (M : Int)] W fun e w' => ∃ (s6 : Bool) (p6 : Option Addr) (l6 c6 : Nat) (q6 : Option Addr) (k6_ d6 : Nat), e = .returned (.agg #[.bool s6, .slice p6 l6 c6, .slice q6 k6_ d6]) ∧ XP W.heap.size w' s6 p6 l6 c6 q6 k6_ d6 ((M : Nat) : Int) 1 100 ∧ Kp W w' := fun W => intN_ M hM1 hM2 W
      have hrq : ∀ (W : World) (s6 : Bool) (p6 : Option Addr) (l6 c6 : Nat) (q6 : Option Addr) (k6_ d6 : Nat) (b : Nat), Kp wr.drew W → XP b W s6 p6 l6 c6 q6 k6_ d6 ((M : Nat) : Int) 1 100 → Calls Tryz.prog 43 #[.agg #[.bool s5, .slice p5 l5 c5, .slice q5 k5_ d5], .agg #[.bool s6, .slice p6 l6 c6, .slice q6 k6_ d6]] W fun e w' => ∃ (s7 : Bool) (p7 : Option Addr) (l7 c7 : Nat) (q7 : Option Addr) (k7_ d7 : Nat), e = .returned (.agg #[.bool s7, .slice p7 l7 c7, .slice q7 k7_ d7]) ∧ XP W.heap.size w' s7 p7 l7 c7 q7 k7_ d7 V (M * 2 ^ K * 2 ^ K) (2 * (K + K + 2058 + 100) + 3) ∧ Kp W w' := fun W s6 p6 l6 c6 q6 k6_ d6 b g h => by
        have h9 := xquo_ V M false (by omega) (2 ^ (K + K)) 1 (K + K + 2058) 100 (by omega) s5 p5 l5 c5 q5 k5_ d5 s6 p6 l6 c6 q6 k6_ d6 0 b W (hX.kp (kr.trans g)) (by have e : rvI false M = ((M : Nat) : Int) := rfl; rw [e]; exact h)
        have e1 : rvI false 1 * V * ((1 : Nat) : Int) = V := by show 1 * V * 1 = V; omega
        have e2 : 2 ^ (K + K) * M = M * 2 ^ K * 2 ^ K := by rw [hpw, Nat.mul_comm, Nat.mul_assoc]
        rw [e1, e2] at h9
        exact h9
      have hab2 := fun (W : World) (s7 : Bool) (p7 : Option Addr) (l7 c7 : Nat) (q7 : Option Addr) (k7_ d7 : Nat) (b : Nat) (h : XP b W s7 p7 l7 c7 q7 k7_ d7 V (M * 2 ^ K * 2 ^ K) (2 * (K + K + 2058 + 100) + 3)) => about4_ K hK V (M * 2 ^ K) (2 * (K + K + 2058 + 100) + 3) hp2 (by omega) L2 H2 hA2 s7 p7 l7 c7 q7 k7_ d7 b W h
      have hlv2 := fun (W : World) (g : Kp wr.drew W) => lives_ W (hT.grown (kwr.trans g)) (Fq.Tab.grown hQ (kwr.trans g))
      obtain ⟨y0, y1, y2, -, -, -⟩ := h3
      have y0 : wr.drew.cell? ⟨bq, 0, none⟩ = some (.bool s5) := y0
      have y1 : wr.drew.cell? ⟨bq, 1, none⟩ = some (.slice p5 l5 c5) := y1
      have y2 : wr.drew.cell? ⟨bq, 2, none⟩ = some (.slice q5 k5_ d5) := y2
      have HW : Hid (Kp w wr.drew) := kwr
      generalize pz L1 = R1 at *
      generalize pz H1 = R2 at *
      generalize pz L2 = R3 at *
      generalize pz H2 = R4 at *
      generalize sgV V = SG at *
      clear hF hk hK hk3 hDq hVb hX hX2 hpw hp1 hp2 kr kwr hA1 hA2 hl hl2 HN HT hT hQ hM1 hM2
      go_upto_region 19 with fail
      go_region_held3 (fun w' => w'.cell? ⟨bq, 0, none⟩ = some (.bool s5) ∧ w'.cell? ⟨bq, 1, none⟩ = some (.slice p5 l5 c5) ∧ w'.cell? ⟨bq, 2, none⟩ = some (.slice q5 k5_ d5)) (first | (with_reducible exact ⟨y0, y1, y2⟩) | (exact ⟨kkeep k1 y0, kkeep k1 y1, kkeep k1 y2⟩) | (exact ⟨kkeep k2 y0, kkeep k2 y1, kkeep k2 y2⟩) | (exact ⟨kkeep k3 y0, kkeep k3 y1, kkeep k3 y2⟩) | (exact ⟨kkeep k4 y0, kkeep k4 y1, kkeep k4 y2⟩) | (exact ⟨kkeep k5 y0, kkeep k5 y1, kkeep k5 y2⟩) | (exact ⟨kkeep k6 y0, kkeep k6 y1, kkeep k6 y2⟩) | (exact ⟨kkeep k7 y0, kkeep k7 y1, kkeep k7 y2⟩) | (exact ⟨kkeep k8 y0, kkeep k8 y1, kkeep k8 y2⟩) | (exact ⟨kkeep k9 y0, kkeep k9 y1, kkeep k9 y2⟩) | (exact ⟨kkeep k10 y0, kkeep k10 y1, kkeep k10 y2⟩) | (exact ⟨kkeep k11 y0, kkeep k11 y1, kkeep k11 y2⟩)) (first | (go_at_call 11; refine (hsg _ ?q9).mono ?_; (case q9 => (first | exact kd | exact k1 | exact k2 | exact k3 | exact k4 | exact k5 | exact k6 | exact k7 | exact k8 | exact k9 | exact k10)); rintro e w1 ⟨rfl, g1⟩; have k1 := kd.trans g1; clear hsg) | (go_at_call 41; refine (hrs _ ?q9).mono ?_; (case q9 => (first | exact kd | exact k1 | exact k2 | exact k3 | exact k4 | exact k5 | exact k6 | exact k7 | exact k8 | exact k9 | exact k10)); rintro e w2 ⟨rfl, g2⟩; have k2 := k1.trans g2; clear hrs) | (go_at_call 10; refine (hrD _ ?q9).mono ?_; (case q9 => (first | exact kd | exact k1 | exact k2 | exact k3 | exact k4 | exact k5 | exact k6 | exact k7 | exact k8 | exact k9 | exact k10)); rintro e w3 ⟨rfl, g3⟩; have k3 := k2.trans g3; clear hrD) | (go_at_call 10; refine (hrU _ ?q9).mono ?_; (case q9 => (first | exact kd | exact k1 | exact k2 | exact k3 | exact k4 | exact k5 | exact k6 | exact k7 | exact k8 | exact k9 | exact k10)); rintro e w4 ⟨rfl, g4⟩; have k4 := k3.trans g4; clear hrU) | (go_at_call 9; refine (hbD _).mono ?_; rintro e w' ⟨rfl, hw'⟩; obtain rfl := hw'.symm; clear hw'; clear hbD) | (go_at_call 9; refine (hbU _).mono ?_; rintro e w' ⟨rfl, hw'⟩; obtain rfl := hw'.symm; clear hw'; clear hbU) | (go_at_call 9; refine (hcD _).mono ?_; rintro e w' ⟨rfl, hw'⟩; obtain rfl := hw'.symm; clear hw'; clear hcD) | (go_at_call 9; refine (hcU _).mono ?_; rintro e w' ⟨rfl, hw'⟩; obtain rfl := hw'.symm; clear hw'; clear hcU) | (go_at_call 42; refine (hab1 _ ?q9).mono ?_; (case q9 => (first | exact kd | exact k1 | exact k2 | exact k3 | exact k4 | exact k5 | exact k6 | exact k7 | exact k8 | exact k9 | exact k10)); rintro e w5 ⟨rfl, g5⟩; have k5 := k4.trans g5; clear hab1) | (go_at_call 36; refine (hI _).mono ?_; rintro e w6 ⟨s6, p6, l6, c6, q6, k6_, d6, rfl, X6, g6⟩; have k6 := k5.trans g6) | (go_at_call 43; refine (hrq _ _ _ _ _ _ _ _ _ ?q9 X6).mono ?_; (case q9 => (first | exact kd | exact k1 | exact k2 | exact k3 | exact k4 | exact k5 | exact k6 | exact k7 | exact k8 | exact k9 | exact k10)); rintro e w7 ⟨s7, p7, l7, c7, q7, k7_, d7, rfl, X7, g7⟩; have k7 := k6.trans g7) | (go_at_call 13; refine (hoD _ ?q9).mono ?_; (case q9 => (first | exact kd | exact k1 | exact k2 | exact k3 | exact k4 | exact k5 | exact k6 | exact k7 | exact k8 | exact k9 | exact k10)); rintro e w8 ⟨rfl, g8⟩; have k8 := k7.trans g8; have X8 := X7.kp g8; clear hoD) | (go_at_call 13; refine (hoU _ ?q9).mono ?_; (case q9 => (first | exact kd | exact k1 | exact k2 | exact k3 | exact k4 | exact k5 | exact k6 | exact k7 | exact k8 | exact k9 | exact k10)); rintro e w9 ⟨rfl, g9⟩; have k9 := k8.trans g9; have X9 := X8.kp g9; clear hoU) | (go_at_call 42; refine (hab2 _ _ _ _ _ _ _ _ _ X9).mono ?_; rintro e w10 ⟨rfl, g10⟩; have k10 := k9.trans g10) | (go_at_call 8; refine (hlv2 _ ?q9).mono ?_; (case q9 => (first | exact kd | exact k1 | exact k2 | exact k3 | exact k4 | exact k5 | exact k6 | exact k7 | exact k8 | exact k9 | exact k10)); rintro e w11 ⟨rfl, g11⟩; have k11 := k10.trans g11; clear hlv2))
      all_goals (
        go_wp2
        exact bodyPost_ret (v := .bool true) (by simp [results, Tryz.results6, go_sem]) rfl ⟨rfl, HW.out.trans k11⟩)
end Go.Proofs.YteedfmghgkmofaaGreatDoor
namespace Go.Proofs.YteedfmghgkmofaaGreatDoor
open Go.RowKit
set_option linter.unusedVariables false
set_option maxRecDepth 20000 in
set_option maxHeartbeats 8000000 in
theorem ttightAS_ (K : Nat) (hK : K = 1074) (p : Option Addr) (c : Nat) (L : List Tm) (hok : TmOk L) (h3 : 1000 < L.length) (z : Int) (hz1 : z < 1) (w : World) (ha : ArrT w p L) (hT : Tab w) (hQ : Fq.Tab w) : Calls Tryz.prog 6 #[.slice p L.length c, .int .i64 z] w fun e w' => e = .returned (.bool true) ∧ Kp w w' := by
  have hlv := lives_ w hT hQ
  obtain ⟨N, hN⟩ : ∃ N, N = L.length := ⟨_, rfl⟩
  rw [← hN] at h3 ⊢
  have j9 : (1000 : Int) < (N : Int) := by omega
  have j7 : z < 1 := by omega
  have HT : Hid (Tab w ∧ Fq.Tab w) := ⟨hT, hQ⟩
  have HN0 : Hid (N = L.length ∧ ArrT w p L ∧ TmOk L ∧ K = 1074 ∧ 1000 ≤ N ∧ 1000 ≤ 1000) := ⟨hN, ha, hok, hK, by omega, by omega⟩
  clear hN ha hok hK hT hQ h3
  go_enter Tryz.func6, Tryz.ntmps6
  go_wp2_with fail
  refine hlv.mono ?_
  rintro e wa ⟨rfl, ga⟩
  go_wp2_with fail
  refine (fnew_ K _).mono ?_
  rintro e wb ⟨rfl, F0, gb⟩
  have hk : Kp w wb := ga.trans gb
  have hz : w.heap.size ≤ wa.heap.size := ga.size
  clear ga gb hlv
  generalize wa.heap.size = bs at *
  go_wp2_with fail
  refine (int0X_ (K + K) _).mono ?_
  rintro e wc_ ⟨s1, p1, l1, c1, q1, k1, d1, rfl, hD0, gc⟩
  have hbs : bs < wb.heap.size := F0.lt
  have HS : Hid (Fs (wc_.alloc (.cells #[.bool s1, .slice p1 l1 c1, .slice q1 k1 d1] 43)) bs (tsV K (L.take 0)) 0 K ∧ Qs (wc_.alloc (.cells #[.bool s1, .slice p1 l1 c1, .slice q1 k1 d1] 43)) wc_.heap.size bs (tsV K (L.take 0)) (K + K) ∧ Kp w (wc_.alloc (.cells #[.bool s1, .slice p1 l1 c1, .slice q1 k1 d1] 43))) :=
    ⟨by simpa [tsV] using (F0.kp gc).kp ((Kp.refl _).alloc _), by simpa [tsV] using (show Qs (wc_.alloc (.cells #[.bool s1, .slice p1 l1 c1, .slice q1 k1 d1] 43)) wc_.heap.size bs 0 (K + K) from ⟨s1, p1, l1, c1, q1, k1, d1, H3c.new _ _ _ _ _, (hD0.mono (Nat.zero_le _)).kp ((Kp.refl _).alloc _), hD0.nbNew (Nat.le_refl _), hD0.nbLow hbs⟩), (hk.trans gc).alloc _⟩
  obtain ⟨hN, ha, hok, hK, hkN, hk3⟩ := HN0.out
  have HN : Hid (N = L.length ∧ ArrT w p L ∧ TmOk L ∧ w.heap.size ≤ bs ∧ 1000 ≤ N ∧ 1000 ≤ 1000 ∧ K = 1074 ∧ bs < wc_.heap.size) := ⟨hN, ha, hok, hz, hkN, hk3, hK, by have := gc.size; omega⟩
  clear HN0 hN ha hok hK hkN hk3 F0 hk hz hD0 gc hbs
  go_wp2_with fail
  generalize wc_.alloc (.cells #[.bool s1, .slice p1 l1 c1, .slice q1 k1 d1] 43) = wd at *
  generalize wc_.heap.size = bq at *
  go_loopw [8, 9, 10] (fun ii tt xx wr => ∃ i : Nat, ii = .int .i64 (i : Int) ∧ i ≤ 1000 ∧ Fs wr bs (tsV K (L.take i)) i K ∧ Qs wr bq bs (tsV K (L.take i)) (K + K) ∧ Kp w wr) (fun i _ _ _ => 1000 - (intOf i).toNat)
  case atStart => exact ⟨0, rfl, Nat.zero_le _, HS.out.1, HS.out.2.1, HS.out.2.2⟩
  case round =>
    obtain ⟨i, rfl, hi, hF, hQ1, hk⟩ := hrel
    clear HS
    obtain ⟨hN, ha, hok, hz, hkN, hk3, hK, hbq⟩ := HN.out
    by_cases ci : i < 1000
    · obtain ⟨oX, oY⟩ := hok i (by omega)
      have hts := tsV_take K L i (by omega)
      rcases ha with ha | ⟨bl, off, rfl, ha⟩
      · rw [ha] at hN; simp at hN; omega
      obtain ⟨e0, e1, e2⟩ := ha i (by omega)
      have e0 := kkeep hk e0
      have e1 := kkeep hk e1
      have e2 := kkeep hk e2
      obtain ⟨X, hX⟩ : ∃ X, X = (L.getD i (0, 0, false)).1 := ⟨_, rfl⟩
      obtain ⟨Y, hY⟩ : ∃ Y, Y = (L.getD i (0, 0, false)).2.1 := ⟨_, rfl⟩
      obtain ⟨pr, hpr⟩ : ∃ pr, pr = (L.getD i (0, 0, false)).2.2 := ⟨_, rfl⟩
      unfold tnV at hts
      rw [← hX] at e0 oX hts
      rw [← hY] at e1 oY hts
      rw [← hpr] at e2 hts
      have hnX := number4_ X oX
      have hnY := number4_ Y oY
      have j1 : (i : Int) < 1000 := by omega
      have j2 : i + 1 ≤ 1000 := by omega
      have j3 : 1000 - (i + 1) < 1000 - i := by omega
      have j4 : i < N := by omega
      have j5 : (i : Int) < (N : Int) := by omega
      have j6 : i + 1 ≤ 1000 := by omega
      have e0 : wr.drew.cell? ⟨bl, off + i * 3, none⟩ = some (.int .u64 (X : Int)) := e0
      have e1 : wr.drew.cell? ⟨bl, off + i * 3 + 1, none⟩ = some (.int .u64 (Y : Int)) := e1
      have e2 : wr.drew.cell? ⟨bl, off + i * 3 + 2, none⟩ = some (.bool pr) := e2
      obtain ⟨n1, m1, hm1, hn1⟩ := Fq.exD (nmP X) (nmP_lt X oX)
      obtain ⟨n2, m2, hm2, hn2⟩ := Fq.exD (nmP Y) (nmP_lt Y oY)
      have f1 := nmP_fin X
      have f2 := nmP_fin Y
      have l1 := nmP_lt X oX
      have l2 := nmP_lt Y oY
      rw [hn1] at hts hnX f1 l1
      rw [hn2] at hts hnY f2 l2
      have g1 : m1 < 9218868437227405312 := by rw [(wD_parts n1 m1 hm1).1] at f1; exact f1
      have g2 : m2 < 9218868437227405312 := by rw [(wD_parts n2 m2 hm2).1] at f2; exact f2
      have HR : Hid (Fs wr bs (tsV K (L.take i)) i K ∧ Qs wr bq bs (tsV K (L.take i)) (K + K) ∧ Kp w wr ∧ w.heap.size ≤ bs ∧ bs < bq ∧ K = 1074 ∧ tsV K (L.take (i + 1)) = tsV K (L.take i) + tkV K (Fq.wD n1 m1) (Fq.wD n2 m2) pr ∧ Fq.wD n1 m1 < 18446744073709551616 ∧ Fq.wD n2 m2 < 18446744073709551616 ∧ m1 < 9218868437227405312 ∧ m2 < 9218868437227405312 ∧ Fq.wD n1 m1 % 9223372036854775808 < 9218868437227405312 ∧ Fq.wD n2 m2 % 9223372036854775808 < 9218868437227405312) := ⟨hF, hQ1, hk, hz, hbq, hK, hts, l1, l2, g1, g2, f1, f2⟩
      clear hN ha hok hz hkN hK hi hts hX hY hpr hF hQ1 ci hk hm1 hm2 hn1 hn2 f1 f2 g1 g2 l1 l2 oX oY hbq
      obtain ⟨WX, hWX⟩ : ∃ WX : Int, WX = ((Fq.wD n1 m1 : Nat) : Int) := ⟨_, rfl⟩
      obtain ⟨WY, hWY⟩ : ∃ WY : Int, WY = ((Fq.wD n2 m2 : Nat) : Int) := ⟨_, rfl⟩
      rw [← hWX] at hnX
      rw [← hWY] at hnY
      have HW : Hid (WX = ((Fq.wD n1 m1 : Nat) : Int) ∧ WY = ((Fq.wD n2 m2 : Nat) : Int)) := ⟨hWX, hWY⟩
      clear hWX hWY
      go_upto_region 11 with fail
      go_region_held3 (fun w' => w'.cell? ⟨bl, off + i * 3, none⟩ = some (.int .u64 (X : Int)) ∧ w'.cell? ⟨bl, off + i * 3 + 1, none⟩ = some (.int .u64 (Y : Int)) ∧ w'.cell? ⟨bl, off + i * 3 + 2, none⟩ = some (.bool pr)) (first | (with_reducible exact ⟨e0, e1, e2⟩) | go_keep) (first | (go_at_call_of 37 (Value.int IntKind.u64 (X : Int)); refine (hnX _).mono ?_; rintro e w' ⟨rfl, hw'⟩; obtain rfl := hw'.symm; clear hw') | (go_at_call_of 37 (Value.int IntKind.u64 (Y : Int)); refine (hnY _).mono ?_; rintro e w' ⟨rfl, hw'⟩; obtain rfl := hw'.symm; clear hw'))
      all_goals (
        cases pr
        · obtain ⟨hF, hQ1, hk, hz, hbq, hK, hts, l1_, l2_, g1, g2, f1, f2⟩ := HR.out
          have t0 : (wr.alloc (.cells #[.int .u64 WX, .int .u64 WY, .bool false] 68)).drew.cell? ⟨wr.heap.size, 0, none⟩ = some (.int .u64 WX) := by simp [go_sem]
          have t1 : (wr.alloc (.cells #[.int .u64 WX, .int .u64 WY, .bool false] 68)).drew.cell? ⟨wr.heap.size, 1, none⟩ = some (.int .u64 WY) := by simp [go_sem]
          have t2 : (wr.alloc (.cells #[.int .u64 WX, .int .u64 WY, .bool false] 68)).drew.cell? ⟨wr.heap.size, 2, none⟩ = some (.bool false) := by simp [go_sem]
          have gA : Kp wr (wr.alloc (.cells #[.int .u64 WX, .int .u64 WY, .bool false] 68)).drew := ((Kp.refl wr).alloc _).drew
          have hbt : bs < wr.heap.size := hF.lt
          generalize (wr.alloc (.cells #[.int .u64 WX, .int .u64 WY, .bool false] 68)).drew = W1 at *
          generalize wr.heap.size = bt at *
          replace hF := hF.kp gA
          replace hQ1 := hQ1.kp gA
          replace hk := hk.trans gA
          have htk := ftake4_ (Fq.wD n1 m1) (Fq.wD n2 m2) false K hK l1_ l2_ f1 f2 bs _ i (by omega) W1 hF
          rw [← hts, ← HW.out.1, ← HW.out.2] at htk
          have HP : Hid (Qs W1 bq bs (tsV K (L.take i)) (K + K) ∧ Kp w W1 ∧ bs < bt ∧ (tsV K (L.take i)).natAbs < 2 ^ (K + K + 2058)) := ⟨hQ1, hk, hbt, fs_b hF hK (by omega)⟩
          clear hF hQ1 hk hz hbq hK hts l1_ l2_ g1 g2 f1 f2 gA hbt
          go_wp2_with fail
          refine htk.mono ?_
          rintro e W2 ⟨⟨v2, rfl⟩, hF, kb⟩
          obtain ⟨hQ1, hk, hbt, hVb⟩ := HP.out
          obtain ⟨-, -, -, hz, hbq, hK, hts, l1_, l2_, g1, g2, f1, f2⟩ := HR.out
          replace hQ1 := hQ1.kb kb (by omega)
          replace hk := kb.kp hk hz
          replace t0 := kb.arr (show bt ≠ bs by omega) t0
          replace t1 := kb.arr (show bt ≠ bs by omega) t1
          replace t2 := kb.arr (show bt ≠ bs by omega) t2
          have hfx := dyfrom_ n1 m1 K hK g1 W2
          rw [← HW.out.1] at hfx
          clear HP htk kb
          have HP : Hid (Fs W2 bs (tsV K (L.take (i + 1))) (i + 1) K ∧ Qs W2 bq bs (tsV K (L.take i)) (K + K) ∧ Kp w W2 ∧ (tsV K (L.take i)).natAbs < 2 ^ (K + K + 2058)) := ⟨hF, hQ1, hk, hVb⟩
          clear hF hQ1 hk hbt hVb hz hbq hK hts l1_ l2_ g1 g2 f1 f2
          go_wp2_with fail
          refine hfx.mono ?_
          rintro e W3 ⟨s3, p3, l3, c3, q3, k3_, d3, rfl, D3, g3⟩
          obtain ⟨hF, hQ1, hk, hVb⟩ := HP.out
          obtain ⟨s5, p5, l5, c5, q5, k5_, d5, hq, hDq, hnb1, hnb2⟩ := hQ1
          replace hF := hF.kp g3
          replace hq := hq.keep g3
          replace hDq := hDq.kp g3
          replace hk := hk.trans g3
          replace t0 := kkeep g3 t0
          replace t1 := kkeep g3 t1
          replace t2 := kkeep g3 t2
          have hx := H3c.new W3 (.bool s3) (.slice p3 l3 c3) (.slice q3 k3_ d3) 43
          have gB : Kp W3 (W3.alloc (.cells #[.bool s3, .slice p3 l3 c3, .slice q3 k3_ d3] 43)) := (Kp.refl W3).alloc _
          have hnb := hDq.nbNew (Nat.le_refl _)
          have hbx : bq < W3.heap.size := hq.lt
          have hbtx : bt < W3.heap.size := cell_lt t0
          clear g3 hfx HP
          go_upto_region 14 with fail
          generalize W3.alloc (.cells #[.bool s3, .slice p3 l3 c3, .slice q3 k3_ d3] 43) = W4 at *
          have D3 := D3.mono (Nat.zero_le _)
          replace hF := hF.kp gB
          replace hq := hq.keep gB
          replace hDq := hDq.kp gB
          replace D3 := D3.kp gB
          replace hk := hk.trans gB
          replace t0 := kkeep gB t0
          replace t1 := kkeep gB t1
          replace t2 := kkeep gB t2
          generalize W3.heap.size = bx at *
          clear gB hnb1 hnb2
          obtain ⟨-, -, -, hz, hbq, hK, hts, l1_, l2_, g1, g2, f1, f2⟩ := HR.out
          have hXb := tk_b K hK (Fq.wD n1 m1) (Fq.wD n2 m2) false
          have hxv : tkV K (Fq.wD n1 m1) (Fq.wD n2 m2) false = Iv n1 m1 * ((2 ^ K : Nat) : Int) := by
            unfold tkV; simp only [Bool.false_eq_true, if_false]; rw [xV_fin n1 m1 K g1]; rfl
          have hDx : Dy 0 W4 s3 p3 l3 c3 q3 k3_ d3 (Iv n1 m1 * ((2 ^ K : Nat) : Int)) (K + K) := D3.up K
          rw [hxv] at hts hXb
          generalize Iv n1 m1 * ((2 ^ K : Nat) : Int) = XV at *
          have hVV := hts
          clear hz hbq hK hts l1_ l2_ g1 g2 f1 f2 hxv D3 hbx
          obtain ⟨u0, u1, u2, u3, u4, u5⟩ := id hq
          obtain ⟨y0, y1, y2, y3, y4, y5⟩ := id hx
          have hra := dyadd_ s5 p5 l5 c5 q5 k5_ d5 s3 p3 l3 c3 q3 k3_ d3 (tsV K (L.take i)) _ (K + K) (K + K + 2058) (by have := HR.out.2.2.2.2.2.1; omega) (by have := HR.out.2.2.2.2.2.1; omega) hVb hXb 0 0 W4 hDq hDx
          have HY : Hid (H3c W4 bq (.bool s5) (.slice p5 l5 c5) (.slice q5 k5_ d5) ∧ Fs W4 bs (tsV K (L.take (i + 1))) (i + 1) K ∧ Kp w W4 ∧ w.heap.size ≤ bs ∧ bs < bq ∧ tsV K (L.take (i + 1)) = tsV K (L.take i) + XV) := ⟨hq, hF, hk, HR.out.2.2.2.1, HR.out.2.2.2.2.1, hVV⟩
          clear hq hx hF hk hDq hDx hVb hXb hVV hnb HR
          go_wp2_with fail
          refine hra.mono ?_
          rintro e W8 ⟨s8, p8, l8, c8, q8, k8_, d8, rfl, D8, g8⟩
          obtain ⟨hq, hF, hk, hz, hbq, hVV⟩ := HY.out
          have hql : bq < W4.heap.size := hq.lt
          replace hq := hq.keep g8
          have kbs : Kb bq W8 (((W8.setCell ⟨bq, 0, none⟩ (.bool s8)).setCell ⟨bq, 1, none⟩ (.slice p8 l8 c8)).setCell ⟨bq, 2, none⟩ (.slice q8 k8_ d8)) := ((((Kb.refl bq W8).setCell 0 _).setCell 1 _).setCell 2 _)
          have HZ : Hid (Fs (((W8.setCell ⟨bq, 0, none⟩ (.bool s8)).setCell ⟨bq, 1, none⟩ (.slice p8 l8 c8)).setCell ⟨bq, 2, none⟩ (.slice q8 k8_ d8)) bs (tsV K (L.take (i + 1))) (i + 1) K ∧ Qs (((W8.setCell ⟨bq, 0, none⟩ (.bool s8)).setCell ⟨bq, 1, none⟩ (.slice p8 l8 c8)).setCell ⟨bq, 2, none⟩ (.slice q8 k8_ d8)) bq bs (tsV K (L.take (i + 1))) (K + K) ∧ Kp w (((W8.setCell ⟨bq, 0, none⟩ (.bool s8)).setCell ⟨bq, 1, none⟩ (.slice p8 l8 c8)).setCell ⟨bq, 2, none⟩ (.slice q8 k8_ d8))) :=
            ⟨(hF.kp g8).kb kbs (by omega), ⟨s8, p8, l8, c8, q8, k8_, d8, hq.put _ _ _, by rw [hVV]; exact (D8.mono (Nat.zero_le _)).kb kbs (D8.nbLow hql), D8.nbLow hql, D8.nbLow (by omega)⟩, kbs.kp (hk.trans g8) (by omega)⟩
          obtain ⟨v0, v1, v2, v3, v4, v5⟩ := hq
          clear hF hk hz hbq hVV hql kbs HY hra g8 D8
          go_wp2
          exact ⟨⟨i + 1, by go_num, j2, HZ.out.1, HZ.out.2.1, HZ.out.2.2⟩, (show 1000 - (i + 1) < 1000 - i from j3)⟩
        · obtain ⟨hF, hQ1, hk, hz, hbq, hK, hts, l1_, l2_, g1, g2, f1, f2⟩ := HR.out
          have t0 : (wr.alloc (.cells #[.int .u64 WX, .int .u64 WY, .bool true] 68)).drew.cell? ⟨wr.heap.size, 0, none⟩ = some (.int .u64 WX) := by simp [go_sem]
          have t1 : (wr.alloc (.cells #[.int .u64 WX, .int .u64 WY, .bool true] 68)).drew.cell? ⟨wr.heap.size, 1, none⟩ = some (.int .u64 WY) := by simp [go_sem]
          have t2 : (wr.alloc (.cells #[.int .u64 WX, .int .u64 WY, .bool true] 68)).drew.cell? ⟨wr.heap.size, 2, none⟩ = some (.bool true) := by simp [go_sem]
          have gA : Kp wr (wr.alloc (.cells #[.int .u64 WX, .int .u64 WY, .bool true] 68)).drew := ((Kp.refl wr).alloc _).drew
          have hbt : bs < wr.heap.size := hF.lt
          generalize (wr.alloc (.cells #[.int .u64 WX, .int .u64 WY, .bool true] 68)).drew = W1 at *
          generalize wr.heap.size = bt at *
          replace hF := hF.kp gA
          replace hQ1 := hQ1.kp gA
          replace hk := hk.trans gA
          have htk := ftake4_ (Fq.wD n1 m1) (Fq.wD n2 m2) true K hK l1_ l2_ f1 f2 bs _ i (by omega) W1 hF
          rw [← hts, ← HW.out.1, ← HW.out.2] at htk
          have HP : Hid (Qs W1 bq bs (tsV K (L.take i)) (K + K) ∧ Kp w W1 ∧ bs < bt ∧ (tsV K (L.take i)).natAbs < 2 ^ (K + K + 2058)) := ⟨hQ1, hk, hbt, fs_b hF hK (by omega)⟩
          clear hF hQ1 hk hz hbq hK hts l1_ l2_ g1 g2 f1 f2 gA hbt
          go_wp2_with fail
          refine htk.mono ?_
          rintro e W2 ⟨⟨v2, rfl⟩, hF, kb⟩
          obtain ⟨hQ1, hk, hbt, hVb⟩ := HP.out
          obtain ⟨-, -, -, hz, hbq, hK, hts, l1_, l2_, g1, g2, f1, f2⟩ := HR.out
          replace hQ1 := hQ1.kb kb (by omega)
          replace hk := kb.kp hk hz
          replace t0 := kb.arr (show bt ≠ bs by omega) t0
          replace t1 := kb.arr (show bt ≠ bs by omega) t1
          replace t2 := kb.arr (show bt ≠ bs by omega) t2
          have hfx := dyfrom_ n1 m1 K hK g1 W2
          rw [← HW.out.1] at hfx
          clear HP htk kb
          have HP : Hid (Fs W2 bs (tsV K (L.take (i + 1))) (i + 1) K ∧ Qs W2 bq bs (tsV K (L.take i)) (K + K) ∧ Kp w W2 ∧ (tsV K (L.take i)).natAbs < 2 ^ (K + K + 2058)) := ⟨hF, hQ1, hk, hVb⟩
          clear hF hQ1 hk hbt hVb hz hbq hK hts l1_ l2_ g1 g2 f1 f2
          go_wp2_with fail
          refine hfx.mono ?_
          rintro e W3 ⟨s3, p3, l3, c3, q3, k3_, d3, rfl, D3, g3⟩
          obtain ⟨hF, hQ1, hk, hVb⟩ := HP.out
          obtain ⟨s5, p5, l5, c5, q5, k5_, d5, hq, hDq, hnb1, hnb2⟩ := hQ1
          replace hF := hF.kp g3
          replace hq := hq.keep g3
          replace hDq := hDq.kp g3
          replace hk := hk.trans g3
          replace t0 := kkeep g3 t0
          replace t1 := kkeep g3 t1
          replace t2 := kkeep g3 t2
          have hx := H3c.new W3 (.bool s3) (.slice p3 l3 c3) (.slice q3 k3_ d3) 43
          have gB : Kp W3 (W3.alloc (.cells #[.bool s3, .slice p3 l3 c3, .slice q3 k3_ d3] 43)) := (Kp.refl W3).alloc _
          have hnb := hDq.nbNew (Nat.le_refl _)
          have hbx : bq < W3.heap.size := hq.lt
          have hbtx : bt < W3.heap.size := cell_lt t0
          clear g3 hfx HP
          go_upto_region 14 with fail
          generalize W3.alloc (.cells #[.bool s3, .slice p3 l3 c3, .slice q3 k3_ d3] 43) = W4 at *
          have D3 := D3.mono (Nat.zero_le _)
          replace hF := hF.kp gB
          replace hq := hq.keep gB
          replace hDq := hDq.kp gB
          replace D3 := D3.kp gB
          replace hk := hk.trans gB
          replace t0 := kkeep gB t0
          replace t1 := kkeep gB t1
          replace t2 := kkeep gB t2
          generalize W3.heap.size = bx at *
          clear gB hnb1 hnb2
          obtain ⟨-, -, -, hz, hbq, hK, hts, l1_, l2_, g1, g2, f1, f2⟩ := HR.out
          have hXb := tk_b K hK (Fq.wD n1 m1) (Fq.wD n2 m2) true
          have hxv : tkV K (Fq.wD n1 m1) (Fq.wD n2 m2) true = Iv n1 m1 * Iv n2 m2 := by
            unfold tkV; simp only [if_true]; exact yV_fin n1 n2 m1 m2 g1 g2
          have hi1 := iv_lt n1 m1 K hK g1
          have hi2 := iv_lt n2 m2 K hK g2
          have hfy := dyfrom_ n2 m2 K hK g2 W4.drew
          rw [← HW.out.2] at hfy
          have hrm := fun (W : World) (s9 : Bool) (p9 : Option Addr) (l9 c9 : Nat) (q9 : Option Addr) (k9_ d9 b : Nat) (g : Kp W4.drew W) (h : Dy b W s9 p9 l9 c9 q9 k9_ d9 (Iv n2 m2) K) => dymul_ s3 p3 l3 c3 q3 k3_ d3 s9 p9 l9 c9 q9 k9_ d9 (Iv n1 m1) (Iv n2 m2) K (K + 1024) (by omega) (by omega) hi1 hi2 0 b W (D3.kp ((Kp.refl W4).drew.trans g)) h
          rw [hxv] at hts hXb
          generalize Iv n1 m1 * Iv n2 m2 = XV at *
          have HP : Hid (Fs W4 bs (tsV K (L.take (i + 1))) (i + 1) K ∧ H3c W4 bq (.bool s5) (.slice p5 l5 c5) (.slice q5 k5_ d5) ∧ Dy 0 W4 s5 p5 l5 c5 q5 k5_ d5 (tsV K (L.take i)) (K + K) ∧ NB p5 q5 bx ∧ Kp w W4 ∧ (tsV K (L.take i)).natAbs < 2 ^ (K + K + 2058) ∧ XV.natAbs < 2 ^ (K + K + 2058) ∧ tsV K (L.take (i + 1)) = tsV K (L.take i) + XV ∧ H3c W4 bx (.bool s3) (.slice p3 l3 c3) (.slice q3 k3_ d3) ∧ bq < bx) := ⟨hF, hq, hDq, hnb, hk, hVb, hXb, hts, hx, hbx⟩
          obtain ⟨y0, y1, y2, y3, y4, y5⟩ := hx
          clear hF hq hDq hnb hk hVb hXb hts hz hbq hK l1_ l2_ g1 g2 f1 f2 hxv D3 hbx hi1 hi2
          go_upto_region 15 with fail
          have y0 : W4.drew.cell? ⟨bx, 0, none⟩ = some (.bool s3) := y0
          have y1 : W4.drew.cell? ⟨bx, 1, none⟩ = some (.slice p3 l3 c3) := y1
          have y2 : W4.drew.cell? ⟨bx, 2, none⟩ = some (.slice q3 k3_ d3) := y2
          have t1 : W4.drew.cell? ⟨bt, 1, none⟩ = some (.int .u64 WY) := t1
          go_region_with (first | (go_at_call 38; refine hfy.mono ?_; rintro e W5 ⟨s9, p9, l9, c9, q9, k9_, d9, rfl, D9, k9⟩; have x0 := kkeep k9 y0; have x1 := kkeep k9 y1; have x2 := kkeep k9 y2) | (go_at_call 39; refine (hrm _ _ _ _ _ _ _ _ _ k9 D9).mono ?_; rintro e W6 ⟨s6, p6, l6, c6, q6, k6_, d6, rfl, D6, g6⟩; have k6 := k9.trans g6; have HX := H3c.keep HP.out.2.2.2.2.2.2.2.2.1 ((Kp.refl W4).drew.trans k6); obtain ⟨z0, z1, z2, z3, z4, z5⟩ := id HX))
          all_goals (
            obtain ⟨hF, hq, hDq, hnb, hk, hVb, hXb, hVV, -, hbx⟩ := HP.out
            have g4 := (Kp.refl W4).drew.trans k6
            have hbl : bx < W5.heap.size := cell_lt (kkeep k9 y0)
            have hz := HR.out.2.2.2.1
            have hbq := HR.out.2.2.2.2.1
            have kbs : Kb bx W6 (((W6.setCell ⟨bx, 0, none⟩ (.bool s6)).setCell ⟨bx, 1, none⟩ (.slice p6 l6 c6)).setCell ⟨bx, 2, none⟩ (.slice q6 k6_ d6)) := ((((Kb.refl bx W6).setCell 0 _).setCell 1 _).setCell 2 _)
            replace hF := (hF.kp g4).kb kbs (by omega)
            replace hq := (hq.keep g4).kb kbs (by omega)
            replace hDq := (hDq.kp g4).kb kbs hnb
            replace hk := kbs.kp (hk.trans g4) (by omega)
            have hx := HX.put (.bool s6) (.slice p6 l6 c6) (.slice q6 k6_ d6)
            have hDx := (D6.mono (Nat.zero_le _)).kb kbs (D6.nbLow hbl)
            clear z0 z1 z2 z3 z4 z5 HX g4 hbl hz hbq kbs y0 y1 y2 y3 y4 y5 k6 k9 g6 D6 D9 HP hrm hfy
            generalize (((W6.setCell ⟨bx, 0, none⟩ (.bool s6)).setCell ⟨bx, 1, none⟩ (.slice p6 l6 c6)).setCell ⟨bx, 2, none⟩ (.slice q6 k6_ d6)) = W7 at *
            obtain ⟨u0, u1, u2, u3, u4, u5⟩ := id hq
            obtain ⟨y0, y1, y2, y3, y4, y5⟩ := id hx
            have hra := dyadd_ s5 p5 l5 c5 q5 k5_ d5 s6 p6 l6 c6 q6 k6_ d6 (tsV K (L.take i)) _ (K + K) (K + K + 2058) (by have := HR.out.2.2.2.2.2.1; omega) (by have := HR.out.2.2.2.2.2.1; omega) hVb hXb 0 0 W7 hDq hDx
            have HY : Hid (H3c W7 bq (.bool s5) (.slice p5 l5 c5) (.slice q5 k5_ d5) ∧ Fs W7 bs (tsV K (L.take (i + 1))) (i + 1) K ∧ Kp w W7 ∧ w.heap.size ≤ bs ∧ bs < bq ∧ tsV K (L.take (i + 1)) = tsV K (L.take i) + XV) := ⟨hq, hF, hk, HR.out.2.2.2.1, HR.out.2.2.2.2.1, hVV⟩
            clear hq hx hF hk hDq hDx hVb hXb hVV hnb HR
            go_wp2_with fail
            refine hra.mono ?_
            rintro e W8 ⟨s8, p8, l8, c8, q8, k8_, d8, rfl, D8, g8⟩
            obtain ⟨hq, hF, hk, hz, hbq, hVV⟩ := HY.out
            have hql : bq < W7.heap.size := hq.lt
            replace hq := hq.keep g8
            have kbs : Kb bq W8 (((W8.setCell ⟨bq, 0, none⟩ (.bool s8)).setCell ⟨bq, 1, none⟩ (.slice p8 l8 c8)).setCell ⟨bq, 2, none⟩ (.slice q8 k8_ d8)) := ((((Kb.refl bq W8).setCell 0 _).setCell 1 _).setCell 2 _)
            have HZ : Hid (Fs (((W8.setCell ⟨bq, 0, none⟩ (.bool s8)).setCell ⟨bq, 1, none⟩ (.slice p8 l8 c8)).setCell ⟨bq, 2, none⟩ (.slice q8 k8_ d8)) bs (tsV K (L.take (i + 1))) (i + 1) K ∧ Qs (((W8.setCell ⟨bq, 0, none⟩ (.bool s8)).setCell ⟨bq, 1, none⟩ (.slice p8 l8 c8)).setCell ⟨bq, 2, none⟩ (.slice q8 k8_ d8)) bq bs (tsV K (L.take (i + 1))) (K + K) ∧ Kp w (((W8.setCell ⟨bq, 0, none⟩ (.bool s8)).setCell ⟨bq, 1, none⟩ (.slice p8 l8 c8)).setCell ⟨bq, 2, none⟩ (.slice q8 k8_ d8))) :=
              ⟨(hF.kp g8).kb kbs (by omega), ⟨s8, p8, l8, c8, q8, k8_, d8, hq.put _ _ _, by rw [hVV]; exact (D8.mono (Nat.zero_le _)).kb kbs (D8.nbLow hql), D8.nbLow hql, D8.nbLow (by omega)⟩, kbs.kp (hk.trans g8) (by omega)⟩
            obtain ⟨v0, v1, v2, v3, v4, v5⟩ := hq
            clear hF hk hz hbq hVV hql kbs HY hra g8 D8
            go_wp2
            exact ⟨⟨i + 1, by go_num, j2, HZ.out.1, HZ.out.2.1, HZ.out.2.2⟩, (show 1000 - (i + 1) < 1000 - i from j3)⟩))
    · have hik : i = 1000 := by omega
      have t1 : ¬ ((i : Int) < 1000) := by omega
      rw [hik] at hF hQ1
      obtain ⟨hT, hQ⟩ := HT.out
      obtain ⟨s5, p5, l5, c5, q5, k5_, d5, h3, hDq, -, -⟩ := hQ1
      have hVb := fs_b hF hK hk3
      clear hN ha hok hz hkN hbq hi ci hik
      generalize tsV K (L.take 1000) = V at *
      have hX := hDq.xp (K + K + 2058) hVb (by omega)
      have hpw : 2 ^ (K + K) = 2 ^ K * 2 ^ K := Nat.pow_add ..
      have hp1 := Nat.two_pow_pos K
      have hp2 : 0 < 7 * 2 ^ K := Nat.mul_pos (by omega) hp1
      have kr : Kp wr wr.drew := (Kp.refl wr).drew
      have kd : Kp wr.drew wr.drew := Kp.refl _
      have kwr : Kp w wr.drew := hk.drew
      have hA1 := ab_g (2 ^ K) hp1 V
      have hA2 := ab_g (7 * 2 ^ K) hp2 V
      have hsg := fun (W : World) (g : Kp wr.drew W) => fsign_ K hK bs V 1000 W (hF.kp (kr.trans g))
      have hrs := fun (W : World) (g : Kp wr.drew W) => dysign_ s5 p5 l5 c5 q5 k5_ d5 V (K + K) (K + K + 2058) (by omega) hVb 0 W (hDq.kp (kr.trans g))
      have hrD := fun (W : World) (g : Kp wr.drew W) => fround_ (-1) (by decide) (by decide) K hK bs V 1000 W (hF.kp (kr.trans g)) (hT.grown (kwr.trans g)) (Fq.Tab.grown hQ (kwr.trans g))
      have hrU := fun (W : World) (g : Kp wr.drew W) => fround_ 1 (by decide) (by decide) K hK bs V 1000 W (hF.kp (kr.trans g)) (hT.grown (kwr.trans g)) (Fq.Tab.grown hQ (kwr.trans g))
      rw [fmaW_g K hK (-1) V] at hrD
      rw [fmaW_g K hK 1 V] at hrU
      have hoD := fun (W : World) (g : Kp wr.drew W) => fover_ (-1) (by decide) (by decide) 7 (by decide) (by decide) K hK bs V 1000 W (hF.kp (kr.trans g)) (Fq.Tab.grown hQ (kwr.trans g))
      have hoU := fun (W : World) (g : Kp wr.drew W) => fover_ 1 (by decide) (by decide) 7 (by decide) (by decide) K hK bs V 1000 W (hF.kp (kr.trans g)) (Fq.Tab.grown hQ (kwr.trans g))
      have hl := len_b V.natAbs 16384 (K + K + 2058) hVb (by omega)
      have hl2 := len_b 7 16384 64 (by omega) (by decide)
      rw [ratW_g K hK (-1) V 7 (by decide) hl hl2] at hoD
      rw [ratW_g K hK 1 V 7 (by decide) hl hl2] at hoU
      generalize g53 (-1) 1 (2 ^ K) V = L1 at *
      generalize g53 1 1 (2 ^ K) V = H1 at *
      generalize g53 (-1) 1 (7 * 2 ^ K) V = L2 at *
      generalize g53 1 1 (7 * 2 ^ K) V = H2 at *
      have hbD := fun (W : World) => bits4_ (pz L1) (self_pz L1 (by rcases hA1 with h | h <;> omega)) W
      have hbU := fun (W : World) => bits4_ (pz H1) (self_pz H1 (by rcases hA1 with h | h <;> omega)) W
      have hcD := fun (W : World) => bits4_ (pz L2) (self_pz L2 (by rcases hA2 with h | h <;> omega)) W
      have hcU := fun (W : World) => bits4_ (pz H2) (self_pz H2 (by rcases hA2 with h | h <;> omega)) W
      have hX2 : XP 0 wr s5 p5 l5 c5 q5 k5_ d5 V (2 ^ K * 2 ^ K) (K + K + 2058) := by rw [← hpw]; exact hX
      have hab1 := fun (W : World) (g : Kp wr.drew W) => about4_ K hK V (2 ^ K) (K + K + 2058) hp1 (by omega) L1 H1 hA1 s5 p5 l5 c5 q5 k5_ d5 0 W (hX2.kp (kr.trans g))
      have hI : ∀ W : World, Calls Tryz.prog 36 #[.int .i64 7] W fun e w' => ∃ (s6 : Bool) (p6 : Option Addr) (l6 c6 : Nat) (q6 : Option Addr) (k6_ d6 : Nat), e = .returned (.agg #[.bool s6, .slice p6 l6 c6, .slice q6 k6_ d6]) ∧ XP W.heap.size w' s6 p6 l6 c6 q6 k6_ d6 ((7 : Nat) : Int) 1 100 ∧ Kp W w' := fun W => intN_ 7 (by decide) (by decide) W
      have hrq : ∀ (W : World) (s6 : Bool) (p6 : Option Addr) (l6 c6 : Nat) (q6 : Option Addr) (k6_ d6 : Nat) (b : Nat), Kp wr.drew W → XP b W s6 p6 l6 c6 q6 k6_ d6 ((7 : Nat) : Int) 1 100 → Calls Tryz.prog 43 #[.agg #[.bool s5, .slice p5 l5 c5, .slice q5 k5_ d5], .agg #[.bool s6, .slice p6 l6 c6, .slice q6 k6_ d6]] W fun e w' => ∃ (s7 : Bool) (p7 : Option Addr) (l7 c7 : Nat) (q7 : Option Addr) (k7_ d7 : Nat), e = .returned (.agg #[.bool s7, .slice p7 l7 c7, .slice q7 k7_ d7]) ∧ XP W.heap.size w' s7 p7 l7 c7 q7 k7_ d7 V (7 * 2 ^ K * 2 ^ K) (2 * (K + K + 2058 + 100) + 3) ∧ Kp W w' := fun W s6 p6 l6 c6 q6 k6_ d6 b g h => by
        have h9 := xquo_ V 7 false (by omega) (2 ^ (K + K)) 1 (K + K + 2058) 100 (by omega) s5 p5 l5 c5 q5 k5_ d5 s6 p6 l6 c6 q6 k6_ d6 0 b W (hX.kp (kr.trans g)) (by have e : rvI false 7 = ((7 : Nat) : Int) := rfl; rw [e]; exact h)
        have e1 : rvI false 1 * V * ((1 : Nat) : Int) = V := by show 1 * V * 1 = V; omega
        have e2 : 2 ^ (K + K) * 7 = 7 * 2 ^ K * 2 ^ K := by rw [hpw, Nat.mul_comm, Nat.mul_assoc]
        rw [e1, e2] at h9
        exact h9
      have hab2 := fun (W : World) (s7 : Bool) (p7 : Option Addr) (l7 c7 : Nat) (q7 : Option Addr) (k7_ d7 : Nat) (b : Nat) (h : XP b W s7 p7 l7 c7 q7 k7_ d7 V (7 * 2 ^ K * 2 ^ K) (2 * (K + K + 2058 + 100) + 3)) => about4_ K hK V (7 * 2 ^ K) (2 * (K + K + 2058 + 100) + 3) hp2 (by omega) L2 H2 hA2 s7 p7 l7 c7 q7 k7_ d7 b W h
      have hlv2 := fun (W : World) (g : Kp wr.drew W) => lives_ W (hT.grown (kwr.trans g)) (Fq.Tab.grown hQ (kwr.trans g))
      obtain ⟨y0, y1, y2, -, -, -⟩ := h3
      have y0 : wr.drew.cell? ⟨bq, 0, none⟩ = some (.bool s5) := y0
      have y1 : wr.drew.cell? ⟨bq, 1, none⟩ = some (.slice p5 l5 c5) := y1
      have y2 : wr.drew.cell? ⟨bq, 2, none⟩ = some (.slice q5 k5_ d5) := y2
      have HW : Hid (Kp w wr.drew) := kwr
      generalize pz L1 = R1 at *
      generalize pz H1 = R2 at *
      generalize pz L2 = R3 at *
      generalize pz H2 = R4 at *
      generalize sgV V = SG at *
      clear hF hk hK hk3 hDq hVb hX hX2 hpw hp1 hp2 kr kwr hA1 hA2 hl hl2 HN HT hT hQ
      go_upto_region 19 with fail
      go_region_held3 (fun w' => w'.cell? ⟨bq, 0, none⟩ = some (.bool s5) ∧ w'.cell? ⟨bq, 1, none⟩ = some (.slice p5 l5 c5) ∧ w'.cell? ⟨bq, 2, none⟩ = some (.slice q5 k5_ d5)) (first | (with_reducible exact ⟨y0, y1, y2⟩) | (exact ⟨kkeep k1 y0, kkeep k1 y1, kkeep k1 y2⟩) | (exact ⟨kkeep k2 y0, kkeep k2 y1, kkeep k2 y2⟩) | (exact ⟨kkeep k3 y0, kkeep k3 y1, kkeep k3 y2⟩) | (exact ⟨kkeep k4 y0, kkeep k4 y1, kkeep k4 y2⟩) | (exact ⟨kkeep k5 y0, kkeep k5 y1, kkeep k5 y2⟩) | (exact ⟨kkeep k6 y0, kkeep k6 y1, kkeep k6 y2⟩) | (exact ⟨kkeep k7 y0, kkeep k7 y1, kkeep k7 y2⟩) | (exact ⟨kkeep k8 y0, kkeep k8 y1, kkeep k8 y2⟩) | (exact ⟨kkeep k9 y0, kkeep k9 y1, kkeep k9 y2⟩) | (exact ⟨kkeep k10 y0, kkeep k10 y1, kkeep k10 y2⟩) | (exact ⟨kkeep k11 y0, kkeep k11 y1, kkeep k11 y2⟩)) (first | (go_at_call 11; refine (hsg _ ?q9).mono ?_; (case q9 => (first | exact kd | exact k1 | exact k2 | exact k3 | exact k4 | exact k5 | exact k6 | exact k7 | exact k8 | exact k9 | exact k10)); rintro e w1 ⟨rfl, g1⟩; have k1 := kd.trans g1; clear hsg) | (go_at_call 41; refine (hrs _ ?q9).mono ?_; (case q9 => (first | exact kd | exact k1 | exact k2 | exact k3 | exact k4 | exact k5 | exact k6 | exact k7 | exact k8 | exact k9 | exact k10)); rintro e w2 ⟨rfl, g2⟩; have k2 := k1.trans g2; clear hrs) | (go_at_call 10; refine (hrD _ ?q9).mono ?_; (case q9 => (first | exact kd | exact k1 | exact k2 | exact k3 | exact k4 | exact k5 | exact k6 | exact k7 | exact k8 | exact k9 | exact k10)); rintro e w3 ⟨rfl, g3⟩; have k3 := k2.trans g3; clear hrD) | (go_at_call 10; refine (hrU _ ?q9).mono ?_; (case q9 => (first | exact kd | exact k1 | exact k2 | exact k3 | exact k4 | exact k5 | exact k6 | exact k7 | exact k8 | exact k9 | exact k10)); rintro e w4 ⟨rfl, g4⟩; have k4 := k3.trans g4; clear hrU) | (go_at_call 9; refine (hbD _).mono ?_; rintro e w' ⟨rfl, hw'⟩; obtain rfl := hw'.symm; clear hw'; clear hbD) | (go_at_call 9; refine (hbU _).mono ?_; rintro e w' ⟨rfl, hw'⟩; obtain rfl := hw'.symm; clear hw'; clear hbU) | (go_at_call 9; refine (hcD _).mono ?_; rintro e w' ⟨rfl, hw'⟩; obtain rfl := hw'.symm; clear hw'; clear hcD) | (go_at_call 9; refine (hcU _).mono ?_; rintro e w' ⟨rfl, hw'⟩; obtain rfl := hw'.symm; clear hw'; clear hcU) | (go_at_call 42; refine (hab1 _ ?q9).mono ?_; (case q9 => (first | exact kd | exact k1 | exact k2 | exact k3 | exact k4 | exact k5 | exact k6 | exact k7 | exact k8 | exact k9 | exact k10)); rintro e w5 ⟨rfl, g5⟩; have k5 := k4.trans g5; clear hab1) | (go_at_call 36; refine (hI _).mono ?_; rintro e w6 ⟨s6, p6, l6, c6, q6, k6_, d6, rfl, X6, g6⟩; have k6 := k5.trans g6) | (go_at_call 43; refine (hrq _ _ _ _ _ _ _ _ _ ?q9 X6).mono ?_; (case q9 => (first | exact kd | exact k1 | exact k2 | exact k3 | exact k4 | exact k5 | exact k6 | exact k7 | exact k8 | exact k9 | exact k10)); rintro e w7 ⟨s7, p7, l7, c7, q7, k7_, d7, rfl, X7, g7⟩; have k7 := k6.trans g7) | (go_at_call 13; refine (hoD _ ?q9).mono ?_; (case q9 => (first | exact kd | exact k1 | exact k2 | exact k3 | exact k4 | exact k5 | exact k6 | exact k7 | exact k8 | exact k9 | exact k10)); rintro e w8 ⟨rfl, g8⟩; have k8 := k7.trans g8; have X8 := X7.kp g8; clear hoD) | (go_at_call 13; refine (hoU _ ?q9).mono ?_; (case q9 => (first | exact kd | exact k1 | exact k2 | exact k3 | exact k4 | exact k5 | exact k6 | exact k7 | exact k8 | exact k9 | exact k10)); rintro e w9 ⟨rfl, g9⟩; have k9 := k8.trans g9; have X9 := X8.kp g9; clear hoU) | (go_at_call 42; refine (hab2 _ _ _ _ _ _ _ _ _ X9).mono ?_; rintro e w10 ⟨rfl, g10⟩; have k10 := k9.trans g10) | (go_at_call 8; refine (hlv2 _ ?q9).mono ?_; (case q9 => (first | exact kd | exact k1 | exact k2 | exact k3 | exact k4 | exact k5 | exact k6 | exact k7 | exact k8 | exact k9 | exact k10)); rintro e w11 ⟨rfl, g11⟩; have k11 := k10.trans g11; clear hlv2))
      all_goals (
        go_wp2
        exact bodyPost_ret (v := .bool true) (by simp [results, Tryz.results6, go_sem]) rfl ⟨rfl, HW.out.trans k11⟩)
end Go.Proofs.YteedfmghgkmofaaGreatDoor
namespace Go.Proofs.YteedfmghgkmofaaGreatDoor
open Go.RowKit
set_option linter.unusedVariables false
set_option maxRecDepth 20000 in
set_option maxHeartbeats 8000000 in
theorem ttightB_ (K : Nat) (hK : K = 1074) (p : Option Addr) (c : Nat) (L : List Tm) (hok : TmOk L) (h3 : ¬ 1000 < L.length) (M : Nat) (hM1 : 1 ≤ M) (hM2 : M < 9223372036854775808) (w : World) (ha : ArrT w p L) (hT : Tab w) (hQ : Fq.Tab w) : Calls Tryz.prog 6 #[.slice p L.length c, .int .i64 (M : Int)] w fun e w' => e = .returned (.bool true) ∧ Kp w w' := by
  have hlv := lives_ w hT hQ
  obtain ⟨N, hN⟩ : ∃ N, N = L.length := ⟨_, rfl⟩
  rw [← hN] at h3 ⊢
  have j9 : ¬ ((1000 : Int) < (N : Int)) := by omega
  have j7 : ¬ ((M : Int) < 1) := by omega
  have HT : Hid (Tab w ∧ Fq.Tab w) := ⟨hT, hQ⟩
  have HN0 : Hid (N = L.length ∧ ArrT w p L ∧ TmOk L ∧ K = 1074 ∧ N ≤ N ∧ N ≤ 1000) := ⟨hN, ha, hok, hK, by omega, by omega⟩
  clear hN ha hok hK hT hQ h3
  go_enter Tryz.func6, Tryz.ntmps6
  go_wp2_with fail
  refine hlv.mono ?_
  rintro e wa ⟨rfl, ga⟩
  go_wp2_with fail
  refine (fnew_ K _).mono ?_
  rintro e wb ⟨rfl, F0, gb⟩
  have hk : Kp w wb := ga.trans gb
  have hz : w.heap.size ≤ wa.heap.size := ga.size
  clear ga gb hlv
  generalize wa.heap.size = bs at *
  go_wp2_with fail
  refine (int0X_ (K + K) _).mono ?_
  rintro e wc_ ⟨s1, p1, l1, c1, q1, k1, d1, rfl, hD0, gc⟩
  have hbs : bs < wb.heap.size := F0.lt
  have HS : Hid (Fs (wc_.alloc (.cells #[.bool s1, .slice p1 l1 c1, .slice q1 k1 d1] 43)) bs (tsV K (L.take 0)) 0 K ∧ Qs (wc_.alloc (.cells #[.bool s1, .slice p1 l1 c1, .slice q1 k1 d1] 43)) wc_.heap.size bs (tsV K (L.take 0)) (K + K) ∧ Kp w (wc_.alloc (.cells #[.bool s1, .slice p1 l1 c1, .slice q1 k1 d1] 43))) :=
    ⟨by simpa [tsV] using (F0.kp gc).kp ((Kp.refl _).alloc _), by simpa [tsV] using (show Qs (wc_.alloc (.cells #[.bool s1, .slice p1 l1 c1, .slice q1 k1 d1] 43)) wc_.heap.size bs 0 (K + K) from ⟨s1, p1, l1, c1, q1, k1, d1, H3c.new _ _ _ _ _, (hD0.mono (Nat.zero_le _)).kp ((Kp.refl _).alloc _), hD0.nbNew (Nat.le_refl _), hD0.nbLow hbs⟩), (hk.trans gc).alloc _⟩
  obtain ⟨hN, ha, hok, hK, hkN, hk3⟩ := HN0.out
  have HN : Hid (N = L.length ∧ ArrT w p L ∧ TmOk L ∧ w.heap.size ≤ bs ∧ N ≤ N ∧ N ≤ 1000 ∧ K = 1074 ∧ bs < wc_.heap.size) := ⟨hN, ha, hok, hz, hkN, hk3, hK, by have := gc.size; omega⟩
  clear HN0 hN ha hok hK hkN hk3 F0 hk hz hD0 gc hbs
  go_wp2_with fail
  generalize wc_.alloc (.cells #[.bool s1, .slice p1 l1 c1, .slice q1 k1 d1] 43) = wd at *
  generalize wc_.heap.size = bq at *
  go_loopw [8, 9, 10] (fun ii tt xx wr => ∃ i : Nat, ii = .int .i64 (i : Int) ∧ i ≤ N ∧ Fs wr bs (tsV K (L.take i)) i K ∧ Qs wr bq bs (tsV K (L.take i)) (K + K) ∧ Kp w wr) (fun i _ _ _ => N - (intOf i).toNat)
  case atStart => exact ⟨0, rfl, Nat.zero_le _, HS.out.1, HS.out.2.1, HS.out.2.2⟩
  case round =>
    obtain ⟨i, rfl, hi, hF, hQ1, hk⟩ := hrel
    clear HS
    obtain ⟨hN, ha, hok, hz, hkN, hk3, hK, hbq⟩ := HN.out
    by_cases ci : i < N
    · obtain ⟨oX, oY⟩ := hok i (by omega)
      have hts := tsV_take K L i (by omega)
      rcases ha with ha | ⟨bl, off, rfl, ha⟩
      · rw [ha] at hN; simp at hN; omega
      obtain ⟨e0, e1, e2⟩ := ha i (by omega)
      have e0 := kkeep hk e0
      have e1 := kkeep hk e1
      have e2 := kkeep hk e2
      obtain ⟨X, hX⟩ : ∃ X, X = (L.getD i (0, 0, false)).1 := ⟨_, rfl⟩
      obtain ⟨Y, hY⟩ : ∃ Y, Y = (L.getD i (0, 0, false)).2.1 := ⟨_, rfl⟩
      obtain ⟨pr, hpr⟩ : ∃ pr, pr = (L.getD i (0, 0, false)).2.2 := ⟨_, rfl⟩
      unfold tnV at hts
      rw [← hX] at e0 oX hts
      rw [← hY] at e1 oY hts
      rw [← hpr] at e2 hts
      have hnX := number4_ X oX
      have hnY := number4_ Y oY
      have j1 : (i : Int) < (N : Int) := by omega
      have j2 : i + 1 ≤ N := by omega
      have j3 : N - (i + 1) < N - i := by omega
      have j4 : i < N := by omega
      have j5 : (i : Int) < (N : Int) := by omega
      have j6 : i + 1 ≤ 1000 := by omega
      have e0 : wr.drew.cell? ⟨bl, off + i * 3, none⟩ = some (.int .u64 (X : Int)) := e0
      have e1 : wr.drew.cell? ⟨bl, off + i * 3 + 1, none⟩ = some (.int .u64 (Y : Int)) := e1
      have e2 : wr.drew.cell? ⟨bl, off + i * 3 + 2, none⟩ = some (.bool pr) := e2
      obtain ⟨n1, m1, hm1, hn1⟩ := Fq.exD (nmP X) (nmP_lt X oX)
      obtain ⟨n2, m2, hm2, hn2⟩ := Fq.exD (nmP Y) (nmP_lt Y oY)
      have f1 := nmP_fin X
      have f2 := nmP_fin Y
      have l1 := nmP_lt X oX
      have l2 := nmP_lt Y oY
      rw [hn1] at hts hnX f1 l1
      rw [hn2] at hts hnY f2 l2
      have g1 : m1 < 9218868437227405312 := by rw [(wD_parts n1 m1 hm1).1] at f1; exact f1
      have g2 : m2 < 9218868437227405312 := by rw [(wD_parts n2 m2 hm2).1] at f2; exact f2
      have HR : Hid (Fs wr bs (tsV K (L.take i)) i K ∧ Qs wr bq bs (tsV K (L.take i)) (K + K) ∧ Kp w wr ∧ w.heap.size ≤ bs ∧ bs < bq ∧ K = 1074 ∧ tsV K (L.take (i + 1)) = tsV K (L.take i) + tkV K (Fq.wD n1 m1) (Fq.wD n2 m2) pr ∧ Fq.wD n1 m1 < 18446744073709551616 ∧ Fq.wD n2 m2 < 18446744073709551616 ∧ m1 < 9218868437227405312 ∧ m2 < 9218868437227405312 ∧ Fq.wD n1 m1 % 9223372036854775808 < 9218868437227405312 ∧ Fq.wD n2 m2 % 9223372036854775808 < 9218868437227405312) := ⟨hF, hQ1, hk, hz, hbq, hK, hts, l1, l2, g1, g2, f1, f2⟩
      clear hN ha hok hz hkN hK hi hts hX hY hpr hF hQ1 ci hk hm1 hm2 hn1 hn2 f1 f2 g1 g2 l1 l2 oX oY hbq
      obtain ⟨WX, hWX⟩ : ∃ WX : Int, WX = ((Fq.wD n1 m1 : Nat) : Int) := ⟨_, rfl⟩
      obtain ⟨WY, hWY⟩ : ∃ WY : Int, WY = ((Fq.wD n2 m2 : Nat) : Int) := ⟨_, rfl⟩
      rw [← hWX] at hnX
      rw [← hWY] at hnY
      have HW : Hid (WX = ((Fq.wD n1 m1 : Nat) : Int) ∧ WY = ((Fq.wD n2 m2 : Nat) : Int)) := ⟨hWX, hWY⟩
      clear hWX hWY
      go_upto_region 11 with fail
      go_region_held3 (fun w' => w'.cell? ⟨bl, off + i * 3, none⟩ = some (.int .u64 (X : Int)) ∧ w'.cell? ⟨bl, off + i * 3 + 1, none⟩ = some (.int .u64 (Y : Int)) ∧ w'.cell? ⟨bl, off + i * 3 + 2, none⟩ = some (.bool pr)) (first | (with_reducible exact ⟨e0, e1, e2⟩) | go_keep) (first | (go_at_call_of 37 (Value.int IntKind.u64 (X : Int)); refine (hnX _).mono ?_; rintro e w' ⟨rfl, hw'⟩; obtain rfl := hw'.symm; clear hw') | (go_at_call_of 37 (Value.int IntKind.u64 (Y : Int)); refine (hnY _).mono ?_; rintro e w' ⟨rfl, hw'⟩; obtain rfl := hw'.symm; clear hw'))
      all_goals (
        cases pr
        · obtain ⟨hF, hQ1, hk, hz, hbq, hK, hts, l1_, l2_, g1, g2, f1, f2⟩ := HR.out
          have t0 : (wr.alloc (.cells #[.int .u64 WX, .int .u64 WY, .bool false] 68)).drew.cell? ⟨wr.heap.size, 0, none⟩ = some (.int .u64 WX) := by simp [go_sem]
          have t1 : (wr.alloc (.cells #[.int .u64 WX, .int .u64 WY, .bool false] 68)).drew.cell? ⟨wr.heap.size, 1, none⟩ = some (.int .u64 WY) := by simp [go_sem]
          have t2 : (wr.alloc (.cells #[.int .u64 WX, .int .u64 WY, .bool false] 68)).drew.cell? ⟨wr.heap.size, 2, none⟩ = some (.bool false) := by simp [go_sem]
          have gA : Kp wr (wr.alloc (.cells #[.int .u64 WX, .int .u64 WY, .bool false] 68)).drew := ((Kp.refl wr).alloc _).drew
          have hbt : bs < wr.heap.size := hF.lt
          generalize (wr.alloc (.cells #[.int .u64 WX, .int .u64 WY, .bool false] 68)).drew = W1 at *
          generalize wr.heap.size = bt at *
          replace hF := hF.kp gA
          replace hQ1 := hQ1.kp gA
          replace hk := hk.trans gA
          have htk := ftake4_ (Fq.wD n1 m1) (Fq.wD n2 m2) false K hK l1_ l2_ f1 f2 bs _ i (by omega) W1 hF
          rw [← hts, ← HW.out.1, ← HW.out.2] at htk
          have HP : Hid (Qs W1 bq bs (tsV K (L.take i)) (K + K) ∧ Kp w W1 ∧ bs < bt ∧ (tsV K (L.take i)).natAbs < 2 ^ (K + K + 2058)) := ⟨hQ1, hk, hbt, fs_b hF hK (by omega)⟩
          clear hF hQ1 hk hz hbq hK hts l1_ l2_ g1 g2 f1 f2 gA hbt
          go_wp2_with fail
          refine htk.mono ?_
          rintro e W2 ⟨⟨v2, rfl⟩, hF, kb⟩
          obtain ⟨hQ1, hk, hbt, hVb⟩ := HP.out
          obtain ⟨-, -, -, hz, hbq, hK, hts, l1_, l2_, g1, g2, f1, f2⟩ := HR.out
          replace hQ1 := hQ1.kb kb (by omega)
          replace hk := kb.kp hk hz
          replace t0 := kb.arr (show bt ≠ bs by omega) t0
          replace t1 := kb.arr (show bt ≠ bs by omega) t1
          replace t2 := kb.arr (show bt ≠ bs by omega) t2
          have hfx := dyfrom_ n1 m1 K hK g1 W2
          rw [← HW.out.1] at hfx
          clear HP htk kb
          have HP : Hid (Fs W2 bs (tsV K (L.take (i + 1))) (i + 1) K ∧ Qs W2 bq bs (tsV K (L.take i)) (K + K) ∧ Kp w W2 ∧ (tsV K (L.take i)).natAbs < 2 ^ (K + K + 2058)) := ⟨hF, hQ1, hk, hVb⟩
          clear hF hQ1 hk hbt hVb hz hbq hK hts l1_ l2_ g1 g2 f1 f2
          go_wp2_with fail
          refine hfx.mono ?_
          rintro e W3 ⟨s3, p3, l3, c3, q3, k3_, d3, rfl, D3, g3⟩
          obtain ⟨hF, hQ1, hk, hVb⟩ := HP.out
          obtain ⟨s5, p5, l5, c5, q5, k5_, d5, hq, hDq, hnb1, hnb2⟩ := hQ1
          replace hF := hF.kp g3
          replace hq := hq.keep g3
          replace hDq := hDq.kp g3
          replace hk := hk.trans g3
          replace t0 := kkeep g3 t0
          replace t1 := kkeep g3 t1
          replace t2 := kkeep g3 t2
          have hx := H3c.new W3 (.bool s3) (.slice p3 l3 c3) (.slice q3 k3_ d3) 43
          have gB : Kp W3 (W3.alloc (.cells #[.bool s3, .slice p3 l3 c3, .slice q3 k3_ d3] 43)) := (Kp.refl W3).alloc _
          have hnb := hDq.nbNew (Nat.le_refl _)
          have hbx : bq < W3.heap.size := hq.lt
          have hbtx : bt < W3.heap.size := cell_lt t0
          clear g3 hfx HP
          go_upto_region 14 with fail
          generalize W3.alloc (.cells #[.bool s3, .slice p3 l3 c3, .slice q3 k3_ d3] 43) = W4 at *
          have D3 := D3.mono (Nat.zero_le _)
          replace hF := hF.kp gB
          replace hq := hq.keep gB
          replace hDq := hDq.kp gB
          replace D3 := D3.kp gB
          replace hk := hk.trans gB
          replace t0 := kkeep gB t0
          replace t1 := kkeep gB t1
          replace t2 := kkeep gB t2
          generalize W3.heap.size = bx at *
          clear gB hnb1 hnb2
          obtain ⟨-, -, -, hz, hbq, hK, hts, l1_, l2_, g1, g2, f1, f2⟩ := HR.out
          have hXb := tk_b K hK (Fq.wD n1 m1) (Fq.wD n2 m2) false
          have hxv : tkV K (Fq.wD n1 m1) (Fq.wD n2 m2) false = Iv n1 m1 * ((2 ^ K : Nat) : Int) := by
            unfold tkV; simp only [Bool.false_eq_true, if_false]; rw [xV_fin n1 m1 K g1]; rfl
          have hDx : Dy 0 W4 s3 p3 l3 c3 q3 k3_ d3 (Iv n1 m1 * ((2 ^ K : Nat) : Int)) (K + K) := D3.up K
          rw [hxv] at hts hXb
          generalize Iv n1 m1 * ((2 ^ K : Nat) : Int) = XV at *
          have hVV := hts
          clear hz hbq hK hts l1_ l2_ g1 g2 f1 f2 hxv D3 hbx
          obtain ⟨u0, u1, u2, u3, u4, u5⟩ := id hq
          obtain ⟨y0, y1, y2, y3, y4, y5⟩ := id hx
          have hra := dyadd_ s5 p5 l5 c5 q5 k5_ d5 s3 p3 l3 c3 q3 k3_ d3 (tsV K (L.take i)) _ (K + K) (K + K + 2058) (by have := HR.out.2.2.2.2.2.1; omega) (by have := HR.out.2.2.2.2.2.1; omega) hVb hXb 0 0 W4 hDq hDx
          have HY : Hid (H3c W4 bq (.bool s5) (.slice p5 l5 c5) (.slice q5 k5_ d5) ∧ Fs W4 bs (tsV K (L.take (i + 1))) (i + 1) K ∧ Kp w W4 ∧ w.heap.size ≤ bs ∧ bs < bq ∧ tsV K (L.take (i + 1)) = tsV K (L.take i) + XV) := ⟨hq, hF, hk, HR.out.2.2.2.1, HR.out.2.2.2.2.1, hVV⟩
          clear hq hx hF hk hDq hDx hVb hXb hVV hnb HR
          go_wp2_with fail
          refine hra.mono ?_
          rintro e W8 ⟨s8, p8, l8, c8, q8, k8_, d8, rfl, D8, g8⟩
          obtain ⟨hq, hF, hk, hz, hbq, hVV⟩ := HY.out
          have hql : bq < W4.heap.size := hq.lt
          replace hq := hq.keep g8
          have kbs : Kb bq W8 (((W8.setCell ⟨bq, 0, none⟩ (.bool s8)).setCell ⟨bq, 1, none⟩ (.slice p8 l8 c8)).setCell ⟨bq, 2, none⟩ (.slice q8 k8_ d8)) := ((((Kb.refl bq W8).setCell 0 _).setCell 1 _).setCell 2 _)
          have HZ : Hid (Fs (((W8.setCell ⟨bq, 0, none⟩ (.bool s8)).setCell ⟨bq, 1, none⟩ (.slice p8 l8 c8)).setCell ⟨bq, 2, none⟩ (.slice q8 k8_ d8)) bs (tsV K (L.take (i + 1))) (i + 1) K ∧ Qs (((W8.setCell ⟨bq, 0, none⟩ (.bool s8)).setCell ⟨bq, 1, none⟩ (.slice p8 l8 c8)).setCell ⟨bq, 2, none⟩ (.slice q8 k8_ d8)) bq bs (tsV K (L.take (i + 1))) (K + K) ∧ Kp w (((W8.setCell ⟨bq, 0, none⟩ (.bool s8)).setCell ⟨bq, 1, none⟩ (.slice p8 l8 c8)).setCell ⟨bq, 2, none⟩ (.slice q8 k8_ d8))) :=
            ⟨(hF.kp g8).kb kbs (by omega), ⟨s8, p8, l8, c8, q8, k8_, d8, hq.put _ _ _, by rw [hVV]; exact (D8.mono (Nat.zero_le _)).kb kbs (D8.nbLow hql), D8.nbLow hql, D8.nbLow (by omega)⟩, kbs.kp (hk.trans g8) (by omega)⟩
          obtain ⟨v0, v1, v2, v3, v4, v5⟩ := hq
          clear hF hk hz hbq hVV hql kbs HY hra g8 D8
          go_wp2
          exact ⟨⟨i + 1, by go_num, j2, HZ.out.1, HZ.out.2.1, HZ.out.2.2⟩, (show N - (i + 1) < N - i from j3)⟩
        · obtain ⟨hF, hQ1, hk, hz, hbq, hK, hts, l1_, l2_, g1, g2, f1, f2⟩ := HR.out
          have t0 : (wr.alloc (.cells #[.int .u64 WX, .int .u64 WY, .bool true] 68)).drew.cell? ⟨wr.heap.size, 0, none⟩ = some (.int .u64 WX) := by simp [go_sem]
          have t1 : (wr.alloc (.cells #[.int .u64 WX, .int .u64 WY, .bool true] 68)).drew.cell? ⟨wr.heap.size, 1, none⟩ = some (.int .u64 WY) := by simp [go_sem]
          have t2 : (wr.alloc (.cells #[.int .u64 WX, .int .u64 WY, .bool true] 68)).drew.cell? ⟨wr.heap.size, 2, none⟩ = some (.bool true) := by simp [go_sem]
          have gA : Kp wr (wr.alloc (.cells #[.int .u64 WX, .int .u64 WY, .bool true] 68)).drew := ((Kp.refl wr).alloc _).drew
          have hbt : bs < wr.heap.size := hF.lt
          generalize (wr.alloc (.cells #[.int .u64 WX, .int .u64 WY, .bool true] 68)).drew = W1 at *
          generalize wr.heap.size = bt at *
          replace hF := hF.kp gA
          replace hQ1 := hQ1.kp gA
          replace hk := hk.trans gA
          have htk := ftake4_ (Fq.wD n1 m1) (Fq.wD n2 m2) true K hK l1_ l2_ f1 f2 bs _ i (by omega) W1 hF
          rw [← hts, ← HW.out.1, ← HW.out.2] at htk
          have HP : Hid (Qs W1 bq bs (tsV K (L.take i)) (K + K) ∧ Kp w W1 ∧ bs < bt ∧ (tsV K (L.take i)).natAbs < 2 ^ (K + K + 2058)) := ⟨hQ1, hk, hbt, fs_b hF hK (by omega)⟩
          clear hF hQ1 hk hz hbq hK hts l1_ l2_ g1 g2 f1 f2 gA hbt
          go_wp2_with fail
          refine htk.mono ?_
          rintro e W2 ⟨⟨v2, rfl⟩, hF, kb⟩
          obtain ⟨hQ1, hk, hbt, hVb⟩ := HP.out
          obtain ⟨-, -, -, hz, hbq, hK, hts, l1_, l2_, g1, g2, f1, f2⟩ := HR.out
          replace hQ1 := hQ1.kb kb (by omega)
          replace hk := kb.kp hk hz
          replace t0 := kb.arr (show bt ≠ bs by omega) t0
          replace t1 := kb.arr (show bt ≠ bs by omega) t1
          replace t2 := kb.arr (show bt ≠ bs by omega) t2
          have hfx := dyfrom_ n1 m1 K hK g1 W2
          rw [← HW.out.1] at hfx
          clear HP htk kb
          have HP : Hid (Fs W2 bs (tsV K (L.take (i + 1))) (i + 1) K ∧ Qs W2 bq bs (tsV K (L.take i)) (K + K) ∧ Kp w W2 ∧ (tsV K (L.take i)).natAbs < 2 ^ (K + K + 2058)) := ⟨hF, hQ1, hk, hVb⟩
          clear hF hQ1 hk hbt hVb hz hbq hK hts l1_ l2_ g1 g2 f1 f2
          go_wp2_with fail
          refine hfx.mono ?_
          rintro e W3 ⟨s3, p3, l3, c3, q3, k3_, d3, rfl, D3, g3⟩
          obtain ⟨hF, hQ1, hk, hVb⟩ := HP.out
          obtain ⟨s5, p5, l5, c5, q5, k5_, d5, hq, hDq, hnb1, hnb2⟩ := hQ1
          replace hF := hF.kp g3
          replace hq := hq.keep g3
          replace hDq := hDq.kp g3
          replace hk := hk.trans g3
          replace t0 := kkeep g3 t0
          replace t1 := kkeep g3 t1
          replace t2 := kkeep g3 t2
          have hx := H3c.new W3 (.bool s3) (.slice p3 l3 c3) (.slice q3 k3_ d3) 43
          have gB : Kp W3 (W3.alloc (.cells #[.bool s3, .slice p3 l3 c3, .slice q3 k3_ d3] 43)) := (Kp.refl W3).alloc _
          have hnb := hDq.nbNew (Nat.le_refl _)
          have hbx : bq < W3.heap.size := hq.lt
          have hbtx : bt < W3.heap.size := cell_lt t0
          clear g3 hfx HP
          go_upto_region 14 with fail
          generalize W3.alloc (.cells #[.bool s3, .slice p3 l3 c3, .slice q3 k3_ d3] 43) = W4 at *
          have D3 := D3.mono (Nat.zero_le _)
          replace hF := hF.kp gB
          replace hq := hq.keep gB
          replace hDq := hDq.kp gB
          replace D3 := D3.kp gB
          replace hk := hk.trans gB
          replace t0 := kkeep gB t0
          replace t1 := kkeep gB t1
          replace t2 := kkeep gB t2
          generalize W3.heap.size = bx at *
          clear gB hnb1 hnb2
          obtain ⟨-, -, -, hz, hbq, hK, hts, l1_, l2_, g1, g2, f1, f2⟩ := HR.out
          have hXb := tk_b K hK (Fq.wD n1 m1) (Fq.wD n2 m2) true
          have hxv : tkV K (Fq.wD n1 m1) (Fq.wD n2 m2) true = Iv n1 m1 * Iv n2 m2 := by
            unfold tkV; simp only [if_true]; exact yV_fin n1 n2 m1 m2 g1 g2
          have hi1 := iv_lt n1 m1 K hK g1
          have hi2 := iv_lt n2 m2 K hK g2
          have hfy := dyfrom_ n2 m2 K hK g2 W4.drew
          rw [← HW.out.2] at hfy
          have hrm := fun (W : World) (s9 : Bool) (p9 : Option Addr) (l9 c9 : Nat) (q9 : Option Addr) (k9_ d9 b : Nat) (g : Kp W4.drew W) (h : Dy b W s9 p9 l9 c9 q9 k9_ d9 (Iv n2 m2) K) => dymul_ s3 p3 l3 c3 q3 k3_ d3 s9 p9 l9 c9 q9 k9_ d9 (Iv n1 m1) (Iv n2 m2) K (K + 1024) (by omega) (by omega) hi1 hi2 0 b W (D3.kp ((Kp.refl W4).drew.trans g)) h
          rw [hxv] at hts hXb
          generalize Iv n1 m1 * Iv n2 m2 = XV at *
          have HP : Hid (Fs W4 bs (tsV K (L.take (i + 1))) (i + 1) K ∧ H3c W4 bq (.bool s5) (.slice p5 l5 c5) (.slice q5 k5_ d5) ∧ Dy 0 W4 s5 p5 l5 c5 q5 k5_ d5 (tsV K (L.take i)) (K + K) ∧ NB p5 q5 bx ∧ Kp w W4 ∧ (tsV K (L.take i)).natAbs < 2 ^ (K + K + 2058) ∧ XV.natAbs < 2 ^ (K + K + 2058) ∧ tsV K (L.take (i + 1)) = tsV K (L.take i) + XV ∧ H3c W4 bx (.bool s3) (.slice p3 l3 c3) (.slice q3 k3_ d3) ∧ bq < bx) := ⟨hF, hq, hDq, hnb, hk, hVb, hXb, hts, hx, hbx⟩
          obtain ⟨y0, y1, y2, y3, y4, y5⟩ := hx
          clear hF hq hDq hnb hk hVb hXb hts hz hbq hK l1_ l2_ g1 g2 f1 f2 hxv D3 hbx hi1 hi2
          go_upto_region 15 with fail
          have y0 : W4.drew.cell? ⟨bx, 0, none⟩ = some (.bool s3) := y0
          have y1 : W4.drew.cell? ⟨bx, 1, none⟩ = some (.slice p3 l3 c3) := y1
          have y2 : W4.drew.cell? ⟨bx, 2, none⟩ = some (.slice q3 k3_ d3) := y2
          have t1 : W4.drew.cell? ⟨bt, 1, none⟩ = some (.int .u64 WY) := t1
          go_region_with (first | (go_at_call 38; refine hfy.mono ?_; rintro e W5 ⟨s9, p9, l9, c9, q9, k9_, d9, rfl, D9, k9⟩; have x0 := kkeep k9 y0; have x1 := kkeep k9 y1; have x2 := kkeep k9 y2) | (go_at_call 39; refine (hrm _ _ _ _ _ _ _ _ _ k9 D9).mono ?_; rintro e W6 ⟨s6, p6, l6, c6, q6, k6_, d6, rfl, D6, g6⟩; have k6 := k9.trans g6; have HX := H3c.keep HP.out.2.2.2.2.2.2.2.2.1 ((Kp.refl W4).drew.trans k6); obtain ⟨z0, z1, z2, z3, z4, z5⟩ := id HX))
          all_goals (
            obtain ⟨hF, hq, hDq, hnb, hk, hVb, hXb, hVV, -, hbx⟩ := HP.out
            have g4 := (Kp.refl W4).drew.trans k6
            have hbl : bx < W5.heap.size := cell_lt (kkeep k9 y0)
            have hz := HR.out.2.2.2.1
            have hbq := HR.out.2.2.2.2.1
            have kbs : Kb bx W6 (((W6.setCell ⟨bx, 0, none⟩ (.bool s6)).setCell ⟨bx, 1, none⟩ (.slice p6 l6 c6)).setCell ⟨bx, 2, none⟩ (.slice q6 k6_ d6)) := ((((Kb.refl bx W6).setCell 0 _).setCell 1 _).setCell 2 _)
            replace hF := (hF.kp g4).kb kbs (by omega)
            replace hq := (hq.keep g4).kb kbs (by omega)
            replace hDq := (hDq.kp g4).kb kbs hnb
            replace hk := kbs.kp (hk.trans g4) (by omega)
            have hx := HX.put (.bool s6) (.slice p6 l6 c6) (.slice q6 k6_ d6)
            have hDx := (D6.mono (Nat.zero_le _)).kb kbs (D6.nbLow hbl)
            clear z0 z1 z2 z3 z4 z5 HX g4 hbl hz hbq kbs y0 y1 y2 y3 y4 y5 k6 k9 g6 D6 D9 HP hrm hfy
            generalize (((W6.setCell ⟨bx, 0, none⟩ (.bool s6)).setCell ⟨bx, 1, none⟩ (.slice p6 l6 c6)).setCell ⟨bx, 2, none⟩ (.slice q6 k6_ d6)) = W7 at *
            obtain ⟨u0, u1, u2, u3, u4, u5⟩ := id hq
            obtain ⟨y0, y1, y2, y3, y4, y5⟩ := id hx
            have hra := dyadd_ s5 p5 l5 c5 q5 k5_ d5 s6 p6 l6 c6 q6 k6_ d6 (tsV K (L.take i)) _ (K + K) (K + K + 2058) (by have := HR.out.2.2.2.2.2.1; omega) (by have := HR.out.2.2.2.2.2.1; omega) hVb hXb 0 0 W7 hDq hDx
            have HY : Hid (H3c W7 bq (.bool s5) (.slice p5 l5 c5) (.slice q5 k5_ d5) ∧ Fs W7 bs (tsV K (L.take (i + 1))) (i + 1) K ∧ Kp w W7 ∧ w.heap.size ≤ bs ∧ bs < bq ∧ tsV K (L.take (i + 1)) = tsV K (L.take i) + XV) := ⟨hq, hF, hk, HR.out.2.2.2.1, HR.out.2.2.2.2.1, hVV⟩
            clear hq hx hF hk hDq hDx hVb hXb hVV hnb HR
            go_wp2_with fail
            refine hra.mono ?_
            rintro e W8 ⟨s8, p8, l8, c8, q8, k8_, d8, rfl, D8, g8⟩
            obtain ⟨hq, hF, hk, hz, hbq, hVV⟩ := HY.out
            have hql : bq < W7.heap.size := hq.lt
            replace hq := hq.keep g8
            have kbs : Kb bq W8 (((W8.setCell ⟨bq, 0, none⟩ (.bool s8)).setCell ⟨bq, 1, none⟩ (.slice p8 l8 c8)).setCell ⟨bq, 2, none⟩ (.slice q8 k8_ d8)) := ((((Kb.refl bq W8).setCell 0 _).setCell 1 _).setCell 2 _)
            have HZ : Hid (Fs (((W8.setCell ⟨bq, 0, none⟩ (.bool s8)).setCell ⟨bq, 1, none⟩ (.slice p8 l8 c8)).setCell ⟨bq, 2, none⟩ (.slice q8 k8_ d8)) bs (tsV K (L.take (i + 1))) (i + 1) K ∧ Qs (((W8.setCell ⟨bq, 0, none⟩ (.bool s8)).setCell ⟨bq, 1, none⟩ (.slice p8 l8 c8)).setCell ⟨bq, 2, none⟩ (.slice q8 k8_ d8)) bq bs (tsV K (L.take (i + 1))) (K + K) ∧ Kp w (((W8.setCell ⟨bq, 0, none⟩ (.bool s8)).setCell ⟨bq, 1, none⟩ (.slice p8 l8 c8)).setCell ⟨bq, 2, none⟩ (.slice q8 k8_ d8))) :=
              ⟨(hF.kp g8).kb kbs (by omega), ⟨s8, p8, l8, c8, q8, k8_, d8, hq.put _ _ _, by rw [hVV]; exact (D8.mono (Nat.zero_le _)).kb kbs (D8.nbLow hql), D8.nbLow hql, D8.nbLow (by omega)⟩, kbs.kp (hk.trans g8) (by omega)⟩
            obtain ⟨v0, v1, v2, v3, v4, v5⟩ := hq
            clear hF hk hz hbq hVV hql kbs HY hra g8 D8
            go_wp2
            exact ⟨⟨i + 1, by go_num, j2, HZ.out.1, HZ.out.2.1, HZ.out.2.2⟩, (show N - (i + 1) < N - i from j3)⟩))
    · have hik : i = N := by omega
      have t1 : ¬ ((i : Int) < (N : Int)) := by omega
      rw [hik] at hF hQ1
      obtain ⟨hT, hQ⟩ := HT.out
      obtain ⟨s5, p5, l5, c5, q5, k5_, d5, h3, hDq, -, -⟩ := hQ1
      have hVb := fs_b hF hK hk3
      clear hN ha hok hz hkN hbq hi ci hik
      generalize tsV K (L.take N) = V at *
      have hX := hDq.xp (K + K + 2058) hVb (by omega)
      have hpw : 2 ^ (K + K) = 2 ^ K * 2 ^ K := Nat.pow_add ..
      have hp1 := Nat.two_pow_pos K
      have hp2 : 0 < M * 2 ^ K := Nat.mul_pos (by omega) hp1
      have kr : Kp wr wr.drew := (Kp.refl wr).drew
      have kd : Kp wr.drew wr.drew := Kp.refl _
      have kwr : Kp w wr.drew := hk.drew
      have hA1 := ab_g (2 ^ K) hp1 V
      have hA2 := ab_g (M * 2 ^ K) hp2 V
      have hsg := fun (W : World) (g : Kp wr.drew W) => fsign_ K hK bs V N W (hF.kp (kr.trans g))
      have hrs := fun (W : World) (g : Kp wr.drew W) => dysign_ s5 p5 l5 c5 q5 k5_ d5 V (K + K) (K + K + 2058) (by omega) hVb 0 W (hDq.kp (kr.trans g))
      have hrD := fun (W : World) (g : Kp wr.drew W) => fround_ (-1) (by decide) (by decide) K hK bs V N W (hF.kp (kr.trans g)) (hT.grown (kwr.trans g)) (Fq.Tab.grown hQ (kwr.trans g))
      have hrU := fun (W : World) (g : Kp wr.drew W) => fround_ 1 (by decide) (by decide) K hK bs V N W (hF.kp (kr.trans g)) (hT.grown (kwr.trans g)) (Fq.Tab.grown hQ (kwr.trans g))
      rw [fmaW_g K hK (-1) V] at hrD
      rw [fmaW_g K hK 1 V] at hrU
      have hoD := fun (W : World) (g : Kp wr.drew W) => fover_ (-1) (by decide) (by decide) M hM1 hM2 K hK bs V N W (hF.kp (kr.trans g)) (Fq.Tab.grown hQ (kwr.trans g))
      have hoU := fun (W : World) (g : Kp wr.drew W) => fover_ 1 (by decide) (by decide) M hM1 hM2 K hK bs V N W (hF.kp (kr.trans g)) (Fq.Tab.grown hQ (kwr.trans g))
      have hl := len_b V.natAbs 16384 (K + K + 2058) hVb (by omega)
      have hl2 := len_b M 16384 64 (by omega) (by decide)
      rw [ratW_g K hK (-1) V M hM1 hl hl2] at hoD
      rw [ratW_g K hK 1 V M hM1 hl hl2] at hoU
      generalize g53 (-1) 1 (2 ^ K) V = L1 at *
      generalize g53 1 1 (2 ^ K) V = H1 at *
      generalize g53 (-1) 1 (M * 2 ^ K) V = L2 at *
      generalize g53 1 1 (M * 2 ^ K) V = H2 at *
      have hbD := fun (W : World) => bits4_ (pz L1) (self_pz L1 (by rcases hA1 with h | h <;> omega)) W
      have hbU := fun (W : World) => bits4_ (pz H1) (self_pz H1 (by rcases hA1 with h | h <;> omega)) W
      have hcD := fun (W : World) => bits4_ (pz L2) (self_pz L2 (by rcases hA2 with h | h <;> omega)) W
      have hcU := fun (W : World) => bits4_ (pz H2) (self_pz H2 (by rcases hA2 with h | h <;> omega)) W
      have hX2 : XP 0 wr s5 p5 l5 c5 q5 k5_ d5 V (2 ^ K * 2 ^ K) (K + K + 2058) := by rw [← hpw]; exact hX
      have hab1 := fun (W : World) (g : Kp wr.drew W) => about4_ K hK V (2 ^ K) (K + K + 2058) hp1 (by omega) L1 H1 hA1 s5 p5 l5 c5 q5 k5_ d5 0 W (hX2.kp (kr.trans g))
      have hI : ∀ W : World, Calls Tryz.prog 36 #[.int .i64 (M : Int)] W fun e w' => ∃ (s6 : Bool) (p6 : Option Addr) (l6 c6 : Nat) (q6 : Option Addr) (k6_ d6 : Nat), e = .returned (.agg #[.bool s6, .slice p6 l6 c6, .slice q6 k6_ d6]) ∧ XP W.heap.size w' s6 p6 l6 c6 q6 k6_ d6 ((M : Nat) : Int) 1 100 ∧ Kp W w' := fun W => intN_ M hM1 hM2 W
      have hrq : ∀ (W : World) (s6 : Bool) (p6 : Option Addr) (l6 c6 : Nat) (q6 : Option Addr) (k6_ d6 : Nat) (b : Nat), Kp wr.drew W → XP b W s6 p6 l6 c6 q6 k6_ d6 ((M : Nat) : Int) 1 100 → Calls Tryz.prog 43 #[.agg #[.bool s5, .slice p5 l5 c5, .slice q5 k5_ d5], .agg #[.bool s6, .slice p6 l6 c6, .slice q6 k6_ d6]] W fun e w' => ∃ (s7 : Bool) (p7 : Option Addr) (l7 c7 : Nat) (q7 : Option Addr) (k7_ d7 : Nat), e = .returned (.agg #[.bool s7, .slice p7 l7 c7, .slice q7 k7_ d7]) ∧ XP W.heap.size w' s7 p7 l7 c7 q7 k7_ d7 V (M * 2 ^ K * 2 ^ K) (2 * (K + K + 2058 + 100) + 3) ∧ Kp W w' := fun W s6 p6 l6 c6 q6 k6_ d6 b g h => by
        have h9 := xquo_ V M false (by omega) (2 ^ (K + K)) 1 (K + K + 2058) 100 (by omega) s5 p5 l5 c5 q5 k5_ d5 s6 p6 l6 c6 q6 k6_ d6 0 b W (hX.kp (kr.trans g)) (by have e : rvI false M = ((M : Nat) : Int) := rfl; rw [e]; exact h)
        have e1 : rvI false 1 * V * ((1 : Nat) : Int) = V := by show 1 * V * 1 = V; omega
        have e2 : 2 ^ (K + K) * M = M * 2 ^ K * 2 ^ K := by rw [hpw, Nat.mul_comm, Nat.mul_assoc]
        rw [e1, e2] at h9
        exact h9
      have hab2 := fun (W : World) (s7 : Bool) (p7 : Option Addr) (l7 c7 : Nat) (q7 : Option Addr) (k7_ d7 : Nat) (b : Nat) (h : XP b W s7 p7 l7 c7 q7 k7_ d7 V (M * 2 ^ K * 2 ^ K) (2 * (K + K + 2058 + 100) + 3)) => about4_ K hK V (M * 2 ^ K) (2 * (K + K + 2058 + 100) + 3) hp2 (by omega) L2 H2 hA2 s7 p7 l7 c7 q7 k7_ d7 b W h
      have hlv2 := fun (W : World) (g : Kp wr.drew W) => lives_ W (hT.grown (kwr.trans g)) (Fq.Tab.grown hQ (kwr.trans g))
      obtain ⟨y0, y1, y2, -, -, -⟩ := h3
      have y0 : wr.drew.cell? ⟨bq, 0, none⟩ = some (.bool s5) := y0
      have y1 : wr.drew.cell? ⟨bq, 1, none⟩ = some (.slice p5 l5 c5) := y1
      have y2 : wr.drew.cell? ⟨bq, 2, none⟩ = some (.slice q5 k5_ d5) := y2
      have HW : Hid (Kp w wr.drew) := kwr
      generalize pz L1 = R1 at *
      generalize pz H1 = R2 at *
      generalize pz L2 = R3 at *
      generalize pz H2 = R4 at *
      generalize sgV V = SG at *
      clear hF hk hK hk3 hDq hVb hX hX2 hpw hp1 hp2 kr kwr hA1 hA2 hl hl2 HN HT hT hQ hM1 hM2
      go_upto_region 19 with fail
      go_region_held3 (fun w' => w'.cell? ⟨bq, 0, none⟩ = some (.bool s5) ∧ w'.cell? ⟨bq, 1, none⟩ = some (.slice p5 l5 c5) ∧ w'.cell? ⟨bq, 2, none⟩ = some (.slice q5 k5_ d5)) (first | (with_reducible exact ⟨y0, y1, y2⟩) | (exact ⟨kkeep k1 y0, kkeep k1 y1, kkeep k1 y2⟩) | (exact ⟨kkeep k2 y0, kkeep k2 y1, kkeep k2 y2⟩) | (exact ⟨kkeep k3 y0, kkeep k3 y1, kkeep k3 y2⟩) | (exact ⟨kkeep k4 y0, kkeep k4 y1, kkeep k4 y2⟩) | (exact ⟨kkeep k5 y0, kkeep k5 y1, kkeep k5 y2⟩) | (exact ⟨kkeep k6 y0, kkeep k6 y1, kkeep k6 y2⟩) | (exact ⟨kkeep k7 y0, kkeep k7 y1, kkeep k7 y2⟩) | (exact ⟨kkeep k8 y0, kkeep k8 y1, kkeep k8 y2⟩) | (exact ⟨kkeep k9 y0, kkeep k9 y1, kkeep k9 y2⟩) | (exact ⟨kkeep k10 y0, kkeep k10 y1, kkeep k10 y2⟩) | (exact ⟨kkeep k11 y0, kkeep k11 y1, kkeep k11 y2⟩)) (first | (go_at_call 11; refine (hsg _ ?q9).mono ?_; (case q9 => (first | exact kd | exact k1 | exact k2 | exact k3 | exact k4 | exact k5 | exact k6 | exact k7 | exact k8 | exact k9 | exact k10)); rintro e w1 ⟨rfl, g1⟩; have k1 := kd.trans g1; clear hsg) | (go_at_call 41; refine (hrs _ ?q9).mono ?_; (case q9 => (first | exact kd | exact k1 | exact k2 | exact k3 | exact k4 | exact k5 | exact k6 | exact k7 | exact k8 | exact k9 | exact k10)); rintro e w2 ⟨rfl, g2⟩; have k2 := k1.trans g2; clear hrs) | (go_at_call 10; refine (hrD _ ?q9).mono ?_; (case q9 => (first | exact kd | exact k1 | exact k2 | exact k3 | exact k4 | exact k5 | exact k6 | exact k7 | exact k8 | exact k9 | exact k10)); rintro e w3 ⟨rfl, g3⟩; have k3 := k2.trans g3; clear hrD) | (go_at_call 10; refine (hrU _ ?q9).mono ?_; (case q9 => (first | exact kd | exact k1 | exact k2 | exact k3 | exact k4 | exact k5 | exact k6 | exact k7 | exact k8 | exact k9 | exact k10)); rintro e w4 ⟨rfl, g4⟩; have k4 := k3.trans g4; clear hrU) | (go_at_call 9; refine (hbD _).mono ?_; rintro e w' ⟨rfl, hw'⟩; obtain rfl := hw'.symm; clear hw'; clear hbD) | (go_at_call 9; refine (hbU _).mono ?_; rintro e w' ⟨rfl, hw'⟩; obtain rfl := hw'.symm; clear hw'; clear hbU) | (go_at_call 9; refine (hcD _).mono ?_; rintro e w' ⟨rfl, hw'⟩; obtain rfl := hw'.symm; clear hw'; clear hcD) | (go_at_call 9; refine (hcU _).mono ?_; rintro e w' ⟨rfl, hw'⟩; obtain rfl := hw'.symm; clear hw'; clear hcU) | (go_at_call 42; refine (hab1 _ ?q9).mono ?_; (case q9 => (first | exact kd | exact k1 | exact k2 | exact k3 | exact k4 | exact k5 | exact k6 | exact k7 | exact k8 | exact k9 | exact k10)); rintro e w5 ⟨rfl, g5⟩; have k5 := k4.trans g5; clear hab1) | (go_at_call 36; refine (hI _).mono ?_; rintro e w6 ⟨s6, p6, l6, c6, q6, k6_, d6, rfl, X6, g6⟩; have k6 := k5.trans g6) | (go_at_call 43; refine (hrq _ _ _ _ _ _ _ _ _ ?q9 X6).mono ?_; (case q9 => (first | exact kd | exact k1 | exact k2 | exact k3 | exact k4 | exact k5 | exact k6 | exact k7 | exact k8 | exact k9 | exact k10)); rintro e w7 ⟨s7, p7, l7, c7, q7, k7_, d7, rfl, X7, g7⟩; have k7 := k6.trans g7) | (go_at_call 13; refine (hoD _ ?q9).mono ?_; (case q9 => (first | exact kd | exact k1 | exact k2 | exact k3 | exact k4 | exact k5 | exact k6 | exact k7 | exact k8 | exact k9 | exact k10)); rintro e w8 ⟨rfl, g8⟩; have k8 := k7.trans g8; have X8 := X7.kp g8; clear hoD) | (go_at_call 13; refine (hoU _ ?q9).mono ?_; (case q9 => (first | exact kd | exact k1 | exact k2 | exact k3 | exact k4 | exact k5 | exact k6 | exact k7 | exact k8 | exact k9 | exact k10)); rintro e w9 ⟨rfl, g9⟩; have k9 := k8.trans g9; have X9 := X8.kp g9; clear hoU) | (go_at_call 42; refine (hab2 _ _ _ _ _ _ _ _ _ X9).mono ?_; rintro e w10 ⟨rfl, g10⟩; have k10 := k9.trans g10) | (go_at_call 8; refine (hlv2 _ ?q9).mono ?_; (case q9 => (first | exact kd | exact k1 | exact k2 | exact k3 | exact k4 | exact k5 | exact k6 | exact k7 | exact k8 | exact k9 | exact k10)); rintro e w11 ⟨rfl, g11⟩; have k11 := k10.trans g11; clear hlv2))
      all_goals (
        go_wp2
        exact bodyPost_ret (v := .bool true) (by simp [results, Tryz.results6, go_sem]) rfl ⟨rfl, HW.out.trans k11⟩)
end Go.Proofs.YteedfmghgkmofaaGreatDoor
