import Derived.Test.YteedfmghgkmofaaGreatDoorKTSa
import Derived.WalkKit
import Derived.ProofKit
import Derived.RowKit3
import Derived.WalkSpells
import Derived.StillTactics
import Derived.Deep.QuietTactic
import Derived.BigQuiet
import Derived.Below
import Derived.Deep.WholeRow
import Derived.Deep.MidRow
import Derived.Laws.Externs
import Derived.Deep.Cut
import Derived.Deep.RegionWith
import Derived.Deep.RegionHeld3
import Derived.Laws.Bits64
import Derived.Lib.Zigzag
import Derived.Deep.OwnRows
import Derived.Laws.MakeOwn
namespace Go.Proofs.YteedfmghgkmofaaGreatDoor
open Go.RowKit
/-- a list of floats, by their patterns -/
def ArrF (w : World) (p : Option Addr) (xs : List Nat) : Prop := xs = [] ∨ ∃ b off, p = some ⟨b, off, none⟩ ∧ ∀ j, j < xs.length → w.cell? ⟨b, off + j, none⟩ = some (.float .f64 (xs.getD j 0))
def sumV (K : Nat) : List Nat → Int
  | [] => 0
  | x :: xs => xV x K + sumV K xs
theorem sumV_take (K : Nat) (xs : List Nat) : ∀ i, i < xs.length → sumV K (xs.take (i + 1)) = sumV K (xs.take i) + xV (xs.getD i 0) K := by
  induction xs with
  | nil => intro i h; simp at h
  | cons x xs ih =>
    intro i h
    cases i with
    | zero => simp [sumV]
    | succ i =>
      have e := ih i (by simpa using h)
      simp only [List.take_succ_cons, sumV, List.getD_cons_succ] at e ⊢
      rw [e]; omega
def sumS (xs : List Nat) : Int := xs.foldl (fun s x => jn s (xS x)) 0
theorem sumS_take (xs : List Nat) (i : Nat) (h : i < xs.length) : sumS (xs.take (i + 1)) = jn (sumS (xs.take i)) (xS (xs.getD i 0)) := by
  unfold sumS
  rw [List.take_add_one, List.foldl_append]
  simp [List.getD, h]
theorem sumV_le (K : Nat) (hK : K = 1074) (xs : List Nat) : (sumV K xs).natAbs ≤ xs.length * tb K := by
  induction xs with
  | nil => simp [sumV]
  | cons x xs ih =>
    have := xV_le x K hK
    simp only [sumV, List.length_cons, Nat.add_mul, Nat.one_mul]
    generalize xs.length * tb K = P at *
    generalize tb K = Q at *
    omega
end Go.Proofs.YteedfmghgkmofaaGreatDoor
namespace Go.Proofs.YteedfmghgkmofaaGreatDoor
open Go.RowKit
set_option maxRecDepth 20000 in
set_option maxHeartbeats 1000000 in
theorem total_ (d : Int) (hd1 : -9223372036854775808 ≤ d) (hd2 : d < 9223372036854775808) (K : Nat) (hK : K = 1074) (p : Option Addr) (c : Nat) (xs : List Nat) (hx : ∀ x ∈ xs, x < 18446744073709551616) (hl : xs.length ≤ 1048576) (w : World) (ha : ArrF w p xs) (hT : Tab w) (hQ : Fq.Tab w) : Calls Tryz.prog 20 #[.int .i64 d, .slice p xs.length c] w fun e w' => e = .returned (.float .f64 (rdW d (sumV K xs) (sumS xs))) ∧ Kp w w' := by
  have hz := zeroS
  have hst := St.zero w
  have hs : (wc (List.replicate 67 0) ++ #[Value.int .u64 0, Value.int .i64 0]).size = 69 := by rw [Array.size_append, wc_size, List.length_replicate]; rfl
  generalize wc (List.replicate 67 0) ++ #[Value.int .u64 0, Value.int .i64 0] = Z at *
  have k1 : Kp w (w.alloc (.cells Z 54)) := (Kp.refl w).alloc _
  obtain ⟨N, hN⟩ : ∃ N, N = xs.length := ⟨_, rfl⟩
  rw [← hN] at hl ⊢
  have HN : Hid (N = xs.length ∧ N ≤ 1048576 ∧ ArrF w p xs) := ⟨hN, hl, ha⟩
  obtain ⟨g, hg⟩ : ∃ g, g = w.heap.size := ⟨_, rfl⟩
  have HG : Hid (g = w.heap.size) := hg
  rw [← hg] at hst
  clear hN hl ha
  go_enter Tryz.func20, Tryz.ntmps20
  go_wp2
  rw [← hg]
  clear hz hg
  go_loopw [10] (fun ii wr => ∃ i : Nat, ii = .int .i64 (i : Int) ∧ i ≤ N ∧ St wr g (sumV K (xs.take i)) i (sumS (xs.take i)) ∧ Kp w wr) (fun i _ => N - (intOf i).toNat)
  case atStart => exact ⟨0, rfl, Nat.zero_le _, by simpa [sumV, sumS] using hst, k1⟩
  case round =>
    clear hst k1
    obtain ⟨i, rfl, hi, hS, hk⟩ := hrel
    obtain ⟨hN, hl, ha⟩ := HN.out
    by_cases ci : i < N
    · have hxi : xs.getD i 0 < 18446744073709551616 := hx _ (by rw [List.getD_eq_getElem?_getD, List.getElem?_eq_getElem (by omega)]; exact List.getElem_mem _)
      rcases ha with ha | ⟨b, off, rfl, ha⟩
      · rw [ha] at hN; simp at hN; omega
      have e1 := kkeep hk (ha i (by omega))
      have had := stadd_ (xs.getD i 0) K hK hxi g _ i _ (by omega) wr hS
      rw [← sumV_take K xs i (by omega), ← sumS_take xs i (by omega)] at had
      obtain ⟨X, hX⟩ : ∃ X, X = xs.getD i 0 := ⟨_, rfl⟩
      rw [← hX] at e1 had
      clear hX
      have hz9 : w.heap.size ≤ g := by rw [HG.out]; exact Nat.le_refl _
      have j0 : (0 : Int) ≤ (i : Int) := by omega
      have j1 : (i : Int) < (N : Int) := by omega
      have j2 : i + 1 ≤ N := by omega
      have j3 : N - (i + 1) < N - i := by omega
      have j4 : i < 1048576 := by omega
      clear hN hl ha hi hxi hS hx
      go_wp2_with (first | (go_at_call 17; refine had.mono ?_; rintro e w1 ⟨⟨v1, rfl⟩, hS1, kb1⟩; have hk1 := kb1.kp hk hz9))
      exact ⟨⟨i + 1, by go_num, j2, hS1, hk1⟩, (show N - (i + 1) < N - i from j3)⟩
    · have hiN : i = N := by omega
      have hS : St wr g (sumV K xs) N (sumS xs) := by rw [hiN, List.take_of_length_le (by first | omega | (simp; omega))] at hS; exact hS
      have t1 : ¬ ((i : Int) < (N : Int)) := by omega
      have hle := sumV_le K hK xs
      have hrd := stround_ d hd1 hd2 g _ N _ (Nat.lt_of_le_of_lt hle (tb_wh K _ hK (by first | omega | (simp; omega)))) wr hS (hT.grown hk) (Fq.Tab.grown hQ hk)
      clear hN hl ha hi hiN ci hS hle hx hK
      go_wp2_with (first | (go_at_call 10; refine hrd.mono ?_; rintro e w2 ⟨rfl, g2⟩))
      exact bodyPost_ret (v := .float .f64 (rdW d (sumV K xs) (sumS xs))) (by simp [results, Tryz.results20, go_sem]) rfl ⟨rfl, hk.trans g2⟩
end Go.Proofs.YteedfmghgkmofaaGreatDoor
namespace Go.Proofs.YteedfmghgkmofaaGreatDoor
open Go.RowKit
def dotV : List Nat → List Nat → Int
  | x :: xs, y :: ys => yV x y + dotV xs ys
  | _, _ => 0
theorem dotV_take (xs : List Nat) : ∀ (ys : List Nat) (i : Nat), xs.length = ys.length → i < xs.length → dotV (xs.take (i + 1)) (ys.take (i + 1)) = dotV (xs.take i) (ys.take i) + yV (xs.getD i 0) (ys.getD i 0) := by
  induction xs with
  | nil => intro ys i _ h; simp at h
  | cons x xs ih =>
    intro ys i hl h
    cases ys with
    | nil => simp at hl
    | cons y ys =>
      cases i with
      | zero => simp [dotV]
      | succ i =>
        have e := ih ys i (by simpa using hl) (by simpa using h)
        simp only [List.take_succ_cons, dotV, List.getD_cons_succ] at e ⊢
        rw [e]; omega
def dotS (xs ys : List Nat) : Int := (xs.zip ys).foldl (fun s q => jn s (yS q.1 q.2)) 0
theorem zip_take9 : ∀ (n : Nat) (xs ys : List Nat), (xs.take n).zip (ys.take n) = (xs.zip ys).take n
  | 0, _, _ => by simp
  | _ + 1, [], _ => by simp
  | _ + 1, _ :: _, [] => by simp
  | n + 1, x :: xs, y :: ys => by simp [zip_take9 n xs ys]
theorem dotS_take (xs ys : List Nat) (i : Nat) (hl : xs.length = ys.length) (h : i < xs.length) : dotS (xs.take (i + 1)) (ys.take (i + 1)) = jn (dotS (xs.take i) (ys.take i)) (yS (xs.getD i 0) (ys.getD i 0)) := by
  unfold dotS
  rw [zip_take9, zip_take9, List.take_add_one, List.foldl_append]
  have h2 : i < ys.length := by omega
  have hz : (xs.zip ys)[i]? = some (xs[i], ys[i]) := by rw [List.getElem?_eq_getElem (by simp; omega), List.getElem_zip]
  simp [List.getD, h, h2, hz]
theorem dotV_le (K : Nat) (hK : K = 1074) (xs : List Nat) : ∀ ys : List Nat, (dotV xs ys).natAbs ≤ xs.length * tb K := by
  induction xs with
  | nil => intro ys; simp [dotV]
  | cons x xs ih =>
    intro ys
    cases ys with
    | nil => simp [dotV]
    | cons y ys =>
      have := yV_le x y K hK
      have h2 := ih ys
      simp only [dotV, List.length_cons, Nat.add_mul, Nat.one_mul]
      generalize xs.length * tb K = P at *
      generalize tb K = Q at *
      omega
theorem mem_lt {xs : List Nat} (hx : ∀ x ∈ xs, x < 18446744073709551616) (i : Nat) (h : i < xs.length) : xs.getD i 0 < 18446744073709551616 := hx _ (by rw [List.getD_eq_getElem?_getD, List.getElem?_eq_getElem h]; exact List.getElem_mem _)
set_option maxRecDepth 20000 in
set_option maxHeartbeats 1000000 in
theorem squares_ (d : Int) (hd1 : -9223372036854775808 ≤ d) (hd2 : d < 9223372036854775808) (K : Nat) (hK : K = 1074) (p : Option Addr) (c : Nat) (xs : List Nat) (hx : ∀ x ∈ xs, x < 18446744073709551616) (hl : xs.length ≤ 1048576) (w : World) (ha : ArrF w p xs) (hT : Tab w) (hQ : Fq.Tab w) : Calls Tryz.prog 19 #[.int .i64 d, .slice p xs.length c] w fun e w' => e = .returned (.float .f64 (rdW d (dotV xs xs) (dotS xs xs))) ∧ Kp w w' := by
  have hz := zeroS
  have hst := St.zero w
  have hs : (wc (List.replicate 67 0) ++ #[Value.int .u64 0, Value.int .i64 0]).size = 69 := by rw [Array.size_append, wc_size, List.length_replicate]; rfl
  generalize wc (List.replicate 67 0) ++ #[Value.int .u64 0, Value.int .i64 0] = Z at *
  have k1 : Kp w (w.alloc (.cells Z 54)) := (Kp.refl w).alloc _
  obtain ⟨N, hN⟩ : ∃ N, N = xs.length := ⟨_, rfl⟩
  rw [← hN] at hl ⊢
  have HN : Hid (N = xs.length ∧ N ≤ 1048576 ∧ ArrF w p xs) := ⟨hN, hl, ha⟩
  obtain ⟨g, hg⟩ : ∃ g, g = w.heap.size := ⟨_, rfl⟩
  have HG : Hid (g = w.heap.size) := hg
  rw [← hg] at hst
  clear hN hl ha 
  go_enter Tryz.func19, Tryz.ntmps19
  go_wp2
  rw [← hg]
  clear hz hg
  go_loopw [10] (fun ii wr => ∃ i : Nat, ii = .int .i64 (i : Int) ∧ i ≤ N ∧ St wr g (dotV (xs.take i) (xs.take i)) i (dotS (xs.take i) (xs.take i)) ∧ Kp w wr) (fun i _ => N - (intOf i).toNat)
  case atStart => exact ⟨0, rfl, Nat.zero_le _, by simpa [dotV, dotS] using hst, k1⟩
  case round =>
    clear hst k1
    obtain ⟨i, rfl, hi, hS, hk⟩ := hrel
    obtain ⟨hN, hl, ha⟩ := HN.out
    by_cases ci : i < N
    · have hxi := mem_lt hx i (by omega)
      rcases ha with ha | ⟨b, off, rfl, ha⟩
      · rw [ha] at hN; simp at hN; omega
      have e1 := kkeep hk (ha i (by omega))
      have had := stmul_ (xs.getD i 0) (xs.getD i 0) hxi hxi g _ i _ (by omega) wr hS
      rw [← dotV_take xs xs i rfl (by omega), ← dotS_take xs xs i rfl (by omega)] at had
      obtain ⟨X, hX⟩ : ∃ X, X = xs.getD i 0 := ⟨_, rfl⟩
      rw [← hX] at had
      rw [← hX] at e1
      clear hX 
      have hz9 : w.heap.size ≤ g := by rw [HG.out]; exact Nat.le_refl _
      have j0 : (0 : Int) ≤ (i : Int) := by omega
      have j1 : (i : Int) < (N : Int) := by omega
      have j2 : i + 1 ≤ N := by omega
      have j3 : N - (i + 1) < N - i := by omega
      have j4 : i < 1048576 := by omega
      clear hN hl ha hi hxi hS hx 
      go_wp2_with (first | (go_at_call 15; refine had.mono ?_; rintro e w1 ⟨⟨v1, rfl⟩, hS1, kb1⟩; have hk1 := kb1.kp hk hz9))
      exact ⟨⟨i + 1, by go_num, j2, hS1, hk1⟩, (show N - (i + 1) < N - i from j3)⟩
    · have hiN : i = N := by omega
      have hS : St wr g (dotV xs xs) N (dotS xs xs) := by rw [hiN, List.take_of_length_le (by omega)] at hS; exact hS
      have t1 : ¬ ((i : Int) < (N : Int)) := by omega
      have hle := dotV_le K hK xs xs
      have hrd := stround_ d hd1 hd2 g _ N _ (Nat.lt_of_le_of_lt hle (tb_wh K _ hK (by omega))) wr hS (hT.grown hk) (Fq.Tab.grown hQ hk)
      clear hN hl ha hi hiN ci hS hle hx hK 
      go_wp2_with (first | (go_at_call 10; refine hrd.mono ?_; rintro e w2 ⟨rfl, g2⟩))
      exact bodyPost_ret (v := .float .f64 (rdW d (dotV xs xs) (dotS xs xs))) (by simp [results, Tryz.results19, go_sem]) rfl ⟨rfl, hk.trans g2⟩
end Go.Proofs.YteedfmghgkmofaaGreatDoor
namespace Go.Proofs.YteedfmghgkmofaaGreatDoor
open Go.RowKit
set_option maxRecDepth 20000 in
set_option maxHeartbeats 1000000 in
theorem dot_ (d : Int) (hd1 : -9223372036854775808 ≤ d) (hd2 : d < 9223372036854775808) (K : Nat) (hK : K = 1074) (p p2 : Option Addr) (c c2 : Nat) (xs ys : List Nat) (hx : ∀ x ∈ xs, x < 18446744073709551616) (hy : ∀ x ∈ ys, x < 18446744073709551616) (hl : xs.length ≤ 1048576) (hxy : xs.length = ys.length) (w : World) (ha : ArrF w p xs) (ha2 : ArrF w p2 ys) (hT : Tab w) (hQ : Fq.Tab w) : Calls Tryz.prog 18 #[.int .i64 d, .slice p xs.length c, .slice p2 ys.length c2] w fun e w' => e = .returned (.tuple #[.float .f64 (rdW d (dotV xs ys) (dotS xs ys)), .int .i64 0]) ∧ Kp w w' := by
  rw [← hxy]
  have hz := zeroS
  have hst := St.zero w
  have hs : (wc (List.replicate 67 0) ++ #[Value.int .u64 0, Value.int .i64 0]).size = 69 := by rw [Array.size_append, wc_size, List.length_replicate]; rfl
  generalize wc (List.replicate 67 0) ++ #[Value.int .u64 0, Value.int .i64 0] = Z at *
  have k1 : Kp w (w.alloc (.cells Z 54)) := (Kp.refl w).alloc _
  obtain ⟨N, hN⟩ : ∃ N, N = xs.length := ⟨_, rfl⟩
  rw [← hN] at hl ⊢
  have HN : Hid (N = xs.length ∧ N ≤ 1048576 ∧ ArrF w p xs ∧ ArrF w p2 ys ∧ xs.length = ys.length) := ⟨hN, hl, ha, ha2, hxy⟩
  obtain ⟨g, hg⟩ : ∃ g, g = w.heap.size := ⟨_, rfl⟩
  have HG : Hid (g = w.heap.size) := hg
  rw [← hg] at hst
  clear hN hl ha ha2 hxy
  go_enter Tryz.func18, Tryz.ntmps18
  go_wp2
  rw [← hg]
  clear hz hg
  go_loopw [18] (fun ii wr => ∃ i : Nat, ii = .int .i64 (i : Int) ∧ i ≤ N ∧ St wr g (dotV (xs.take i) (ys.take i)) i (dotS (xs.take i) (ys.take i)) ∧ Kp w wr) (fun i _ => N - (intOf i).toNat)
  case atStart => exact ⟨0, rfl, Nat.zero_le _, by simpa [dotV, dotS] using hst, k1⟩
  case round =>
    clear hst k1
    obtain ⟨i, rfl, hi, hS, hk⟩ := hrel
    obtain ⟨hN, hl, ha, ha2, hxy⟩ := HN.out
    by_cases ci : i < N
    · have hxi := mem_lt hx i (by omega)
      have hyi := mem_lt hy i (by omega)
      rcases ha with ha | ⟨b, off, rfl, ha⟩
      · rw [ha] at hN; simp at hN; omega
      rcases ha2 with ha2 | ⟨b2, off2, rfl, ha2⟩
      · have h0 : xs.length = 0 := by rw [hxy, ha2]; rfl
        omega
      have e2 := kkeep hk (ha2 i (by omega))
      have e1 := kkeep hk (ha i (by omega))
      have had := stmul_ (xs.getD i 0) (ys.getD i 0) hxi hyi g _ i _ (by omega) wr hS
      rw [← dotV_take xs ys i hxy (by omega), ← dotS_take xs ys i hxy (by omega)] at had
      obtain ⟨X, hX⟩ : ∃ X, X = xs.getD i 0 := ⟨_, rfl⟩
      obtain ⟨Y, hY⟩ : ∃ Y, Y = ys.getD i 0 := ⟨_, rfl⟩
      rw [← hX, ← hY] at had
      rw [← hX] at e1
      rw [← hY] at e2
      clear hX hY
      have hz9 : w.heap.size ≤ g := by rw [HG.out]; exact Nat.le_refl _
      have j0 : (0 : Int) ≤ (i : Int) := by omega
      have j1 : (i : Int) < (N : Int) := by omega
      have j2 : i + 1 ≤ N := by omega
      have j3 : N - (i + 1) < N - i := by omega
      have j4 : i < 1048576 := by omega
      clear hN hl ha hi hxi hS hx ha2 hxy hyi hy
      go_wp2_with (first | (go_at_call 15; refine had.mono ?_; rintro e w1 ⟨⟨v1, rfl⟩, hS1, kb1⟩; have hk1 := kb1.kp hk hz9))
      exact ⟨⟨i + 1, by go_num, j2, hS1, hk1⟩, (show N - (i + 1) < N - i from j3)⟩
    · have hiN : i = N := by omega
      have hS : St wr g (dotV xs ys) N (dotS xs ys) := by rw [hiN, List.take_of_length_le (by omega), List.take_of_length_le (by omega)] at hS; exact hS
      have t1 : ¬ ((i : Int) < (N : Int)) := by omega
      have hle := dotV_le K hK xs ys
      have hrd := stround_ d hd1 hd2 g _ N _ (Nat.lt_of_le_of_lt hle (tb_wh K _ hK (by omega))) wr hS (hT.grown hk) (Fq.Tab.grown hQ hk)
      clear hN hl ha hi hiN ci hS hle hx hK ha2 hxy hy
      go_wp2_with (first | (go_at_call 10; refine hrd.mono ?_; rintro e w2 ⟨rfl, g2⟩))
      exact bodyPost_ret (v := .tuple #[.float .f64 (rdW d (dotV xs ys) (dotS xs ys)), .int .i64 0]) (by simp [results, Tryz.results18, go_sem]) rfl ⟨rfl, hk.trans g2⟩
end Go.Proofs.YteedfmghgkmofaaGreatDoor
namespace Go.Proofs.YteedfmghgkmofaaGreatDoor
open Go.RowKit
theorem loN : (FloatKind.f64.format.order 9221120237041090561 9221120237041090561 != some .eq) = true := by decide +kernel
end Go.Proofs.YteedfmghgkmofaaGreatDoor
namespace Go.Proofs.YteedfmghgkmofaaGreatDoor
open Go.RowKit
theorem flip4 (n : Bool) (m : Nat) (hm : m < 9223372036854775808) : Fq.wD n m ^^^ 9223372036854775808 = Fq.wD (!n) m := by
  obtain ⟨x, hx⟩ : ∃ x, x = Fq.wD n m := ⟨_, rfl⟩
  have h1 : (x ^^^ 9223372036854775808) % 2 ^ 63 = x % 2 ^ 63 := by
    rw [Nat.xor_mod_two_pow, show (9223372036854775808 : Nat) % 2 ^ 63 = 0 from by decide, Nat.xor_zero]
  have h2 : (x ^^^ 9223372036854775808) / 2 ^ 63 = x / 2 ^ 63 ^^^ 1 := by
    rw [← Nat.shiftRight_eq_div_pow, ← Nat.shiftRight_eq_div_pow, Nat.shiftRight_xor_distrib, show (9223372036854775808 : Nat) >>> 63 = 1 from by decide]
  rw [show (2 : Nat) ^ 63 = 9223372036854775808 from by decide] at h1 h2
  rw [← hx]
  generalize hz : x ^^^ 9223372036854775808 = z at h1 h2 ⊢
  clear hz
  cases n
  · have e : x = m := by rw [hx]; unfold Fq.wD; simp
    rw [e, Nat.div_eq_of_lt hm, show (0 : Nat) ^^^ 1 = 1 from by decide] at h2
    rw [e, Nat.mod_eq_of_lt hm] at h1
    unfold Fq.wD
    simp
    omega
  · have e : x = 9223372036854775808 + m := by rw [hx]; unfold Fq.wD; simp
    have e2 : x / 9223372036854775808 = 1 := by omega
    have e3 : x % 9223372036854775808 = m := by omega
    rw [e2, show (1 : Nat) ^^^ 1 = 0 from by decide] at h2
    rw [e3] at h1
    unfold Fq.wD
    simp
    omega
theorem neg4W (n : Bool) (m : Nat) (hm : m < 9223372036854775808) (w : World) : (Op.unary .neg (.float .f64 (Fq.wD n m))).run Tryz.prog w = .ok (.float .f64 (Fq.wD (!n) m)) w := by
  have h : Op.negFloat .f64 (Fq.wD n m) = Fq.wD (!n) m := by
    unfold Op.negFloat
    exact flip4 n m hm
  rw [← h]; rfl
end Go.Proofs.YteedfmghgkmofaaGreatDoor
namespace Go.Proofs.YteedfmghgkmofaaGreatDoor
open Go.RowKit
set_option linter.unusedSimpArgs false
set_option linter.unusedVariables false
set_option exponentiation.threshold 10000
instance (s : Int) : Decidable (OkS s) := by unfold OkS; exact inferInstance
theorem rt_uniq (a r : Nat) (h1 : r * r ≤ a) (h2 : a < (r + 1) * (r + 1)) : rtN a = r := by
  obtain ⟨q1, q2⟩ := rtN_is a
  have a1 : ¬ rtN a + 1 ≤ r := fun h => by have := Nat.mul_le_mul h h; omega
  have a2 : ¬ r + 1 ≤ rtN a := fun h => by have := Nat.mul_le_mul h h; omega
  omega
theorem rtR_eq (A r : Nat) (e : Nat) (h1 : r * r ≤ A * 2 ^ 128) (h2 : A * 2 ^ 128 < (r + 1) * (r + 1)) (h3 : (if A * 2 ^ 128 = r * r then 0 else 1) = e) : rtR A = 2 * r + e := by
  unfold rtR
  rw [rt_uniq _ r h1 h2, h3]
theorem rt0 : rtW 1 0 0 = 0 := by
  have h := rtR_eq 0 0 0 (by decide) (by decide) (by decide)
  unfold rtW
  rw [if_pos rfl, if_neg (by decide), show (0 : Int).natAbs = 0 from rfl, h]
  decide +kernel
theorem rt3 : rtR (122900016431630196435528686544129273431785699277604943109401915131032337159373481142782880447210876688431000563886104121942394032837041972101671252648203109300331192880747790150053008250343474749232708517095009305290800820783206191594166975604596433812346565455381987871805430942407495253544638427447641401491946547230341416528930014494507517558122535091587882353091654883317765975654794445540120162887762700841583505909191186625857331745388113535087834472691663043545879520827835815005875997773266986341075364738161641196169965595959428436754244894295668672658248523502589074876730982511738655518589338884681271486242387917576807705761487905619968 : Int).natAbs = 12933786527692090028018091986477785453110406726430942677199218140540624678619927965281793038385395812042567088693737737607593880037446498622907221474200984987167336137166502730924594343242421004341630976192508711396891999562853525675149669496792095343624460929320434964653899142882981079696413665571375536253761933620131032904083493790708539807 := rtR_eq _ 6466893263846045014009045993238892726555203363215471338599609070270312339309963982640896519192697906021283544346868868803796940018723249311453610737100492493583668068583251365462297171621210502170815488096254355698445999781426762837574834748396047671812230464660217482326949571441490539848206832785687768126880966810065516452041746895354269903 1 (by decide +kernel) (by decide +kernel) (by decide +kernel)
theorem rt3d : rtW (-1) 122900016431630196435528686544129273431785699277604943109401915131032337159373481142782880447210876688431000563886104121942394032837041972101671252648203109300331192880747790150053008250343474749232708517095009305290800820783206191594166975604596433812346565455381987871805430942407495253544638427447641401491946547230341416528930014494507517558122535091587882353091654883317765975654794445540120162887762700841583505909191186625857331745388113535087834472691663043545879520827835815005875997773266986341075364738161641196169965595959428436754244894295668672658248523502589074876730982511738655518589338884681271486242387917576807705761487905619968 0 = 4610479282544200874 := by
  unfold rtW
  rw [if_pos rfl, if_neg (by decide +kernel), rt3]
  decide +kernel
theorem rt3u : rtW 1 122900016431630196435528686544129273431785699277604943109401915131032337159373481142782880447210876688431000563886104121942394032837041972101671252648203109300331192880747790150053008250343474749232708517095009305290800820783206191594166975604596433812346565455381987871805430942407495253544638427447641401491946547230341416528930014494507517558122535091587882353091654883317765975654794445540120162887762700841583505909191186625857331745388113535087834472691663043545879520827835815005875997773266986341075364738161641196169965595959428436754244894295668672658248523502589074876730982511738655518589338884681271486242387917576807705761487905619968 0 = 4610479282544200875 := by
  unfold rtW
  rw [if_pos rfl, if_neg (by decide +kernel), rt3]
  decide +kernel
set_option maxRecDepth 20000 in
theorem kn1 : (0 : Int).natAbs < wh := by decide +kernel
set_option maxRecDepth 20000 in
theorem kn2 : rdW 1 (0) 0 = 0 := by decide +kernel
set_option maxRecDepth 20000 in
theorem kn3 : (FloatKind.f64.format.order 0 0 != some .eq) = false := by decide +kernel
set_option maxRecDepth 20000 in
theorem kn4 : (0 : Int).natAbs < wh := by decide +kernel
set_option maxRecDepth 20000 in
theorem kn5 : sgS (0) 0 = 0 := by decide +kernel
set_option maxRecDepth 20000 in
theorem kn6 : (0 : Int).natAbs < wh := by decide +kernel
set_option maxRecDepth 20000 in
theorem kn7 : ovW (-1) 3 (0) 0 = 0 := by decide +kernel
set_option maxRecDepth 20000 in
theorem kn8 : (FloatKind.f64.format.order 0 0 != some .eq) = false := by decide +kernel
set_option maxRecDepth 20000 in
theorem kn9 : (0 : Int).natAbs < wh := by decide +kernel
set_option maxRecDepth 20000 in
theorem kn10 : (FloatKind.f64.format.order 0 0 != some .eq) = false := by decide +kernel
set_option maxRecDepth 20000 in
theorem kn11 : 0 + yV 1 1 = 1 := by decide +kernel
set_option maxRecDepth 20000 in
theorem kn12 : jn 0 (yS 1 1) = 0 := by decide +kernel
set_option maxRecDepth 20000 in
theorem kn13 : (1 : Int).natAbs < wh := by decide +kernel
set_option maxRecDepth 20000 in
theorem kn14 : rdW (-1) (1) 0 = 0 := by decide +kernel
set_option maxRecDepth 20000 in
theorem kn15 : (FloatKind.f64.format.order 0 0 != some .eq) = false := by decide +kernel
set_option maxRecDepth 20000 in
theorem kn16 : (1 : Int).natAbs < wh := by decide +kernel
set_option maxRecDepth 20000 in
theorem kn17 : rdW 1 (1) 0 = 1 := by decide +kernel
set_option maxRecDepth 20000 in
theorem kn18 : (FloatKind.f64.format.order 1 1 != some .eq) = false := by decide +kernel
set_option maxRecDepth 20000 in
theorem kn19 : (1 : Int).natAbs < wh := by decide +kernel
set_option maxRecDepth 20000 in
theorem kn20 : sgS (1) 0 = 1 := by decide +kernel
set_option maxRecDepth 20000 in
theorem kn21 : 1 + yV 1 9223372036854775809 = 0 := by decide +kernel
set_option maxRecDepth 20000 in
theorem kn22 : jn 0 (yS 1 9223372036854775809) = 0 := by decide +kernel
set_option maxRecDepth 20000 in
theorem kn23 : (0 : Int).natAbs < wh := by decide +kernel
set_option maxRecDepth 20000 in
theorem kn24 : sgS (0) 0 = 0 := by decide +kernel
set_option maxRecDepth 20000 in
theorem kn25 : (0 : Int).natAbs < wh := by decide +kernel
set_option maxRecDepth 20000 in
theorem kn26 : rdW 1 (0) 0 = 0 := by decide +kernel
set_option maxRecDepth 20000 in
theorem kn27 : (FloatKind.f64.format.order 0 0 != some .eq) = false := by decide +kernel
set_option maxRecDepth 20000 in
theorem kn28 : 0 + yV 9218868437227405311 9218868437227405311 = yV 9218868437227405311 9218868437227405311 := by decide +kernel
set_option maxRecDepth 20000 in
theorem kn29 : jn 0 (yS 9218868437227405311 9218868437227405311) = 0 := by decide +kernel
set_option maxRecDepth 20000 in
theorem kn30 : yV 9218868437227405311 9218868437227405311 + yV 18442240474082181119 9218868437227405311 = 0 := by decide +kernel
set_option maxRecDepth 20000 in
theorem kn31 : jn 0 (yS 18442240474082181119 9218868437227405311) = 0 := by decide +kernel
set_option maxRecDepth 20000 in
theorem kn32 : 0 + xV 4617315517961601024 1074 = xV 4617315517961601024 1074 := by decide +kernel
set_option maxRecDepth 20000 in
theorem kn33 : jn 0 (xS 4617315517961601024) = 0 := by decide +kernel
set_option maxRecDepth 20000 in
theorem kn34 : (xV 4617315517961601024 1074 : Int).natAbs < wh := by decide +kernel
set_option maxRecDepth 20000 in
theorem kn35 : rdW (-1) (xV 4617315517961601024 1074) 0 = 4617315517961601024 := by decide +kernel
set_option maxRecDepth 20000 in
theorem kn36 : (xV 4617315517961601024 1074 : Int).natAbs < wh := by decide +kernel
set_option maxRecDepth 20000 in
theorem kn37 : ovW 1 0 (xV 4617315517961601024 1074) 0 = 9221120237041090561 := by decide +kernel
set_option maxRecDepth 20000 in
theorem kn38 : xV 4617315517961601024 1074 + xV 9218868437227405312 1074 = xV 4617315517961601024 1074 := by decide +kernel
set_option maxRecDepth 20000 in
theorem kn39 : jn 0 (xS 9218868437227405312) = 1 := by decide +kernel
set_option maxRecDepth 20000 in
theorem kn40 : (xV 4617315517961601024 1074 : Int).natAbs < wh := by decide +kernel
set_option maxRecDepth 20000 in
theorem kn41 : sgS (xV 4617315517961601024 1074) 1 = 1 := by decide +kernel
set_option maxRecDepth 20000 in
theorem kn42 : (xV 4617315517961601024 1074 : Int).natAbs < wh := by decide +kernel
set_option maxRecDepth 20000 in
theorem kn43 : rdW (-1) (xV 4617315517961601024 1074) 1 = 9218868437227405312 := by decide +kernel
set_option maxRecDepth 20000 in
theorem kn44 : (FloatKind.f64.format.order 9218868437227405312 9218868437227405312 != some .eq) = false := by decide +kernel
set_option maxRecDepth 20000 in
theorem kn45 : xV 4617315517961601024 1074 + xV 18442240474082181120 1074 = xV 4617315517961601024 1074 := by decide +kernel
set_option maxRecDepth 20000 in
theorem kn46 : jn 1 (xS 18442240474082181120) = 2 := by decide +kernel
set_option maxRecDepth 20000 in
theorem kn47 : jn 2 (xS 4607182418800017408) = 2 := by decide +kernel
set_option maxRecDepth 20000 in
theorem kn48 : (xV 4617315517961601024 1074 + xV 4607182418800017408 1074 : Int).natAbs < wh := by decide +kernel
set_option maxRecDepth 20000 in
theorem kn49 : sgS (xV 4617315517961601024 1074 + xV 4607182418800017408 1074) 2 = 0 := by decide +kernel
set_option maxRecDepth 20000 in
theorem kn50 : (xV 4617315517961601024 1074 + xV 4607182418800017408 1074 : Int).natAbs < wh := by decide +kernel
set_option maxRecDepth 20000 in
theorem kn51 : rdW (-1) (xV 4617315517961601024 1074 + xV 4607182418800017408 1074) 2 = 9221120237041090561 := by decide +kernel
set_option maxRecDepth 20000 in
theorem kn52 : 0 + xV 4607182418800017408 1074 = xV 4607182418800017408 1074 := by decide +kernel
set_option maxRecDepth 20000 in
theorem kn53 : jn 0 (xS 4607182418800017408) = 0 := by decide +kernel
set_option maxRecDepth 20000 in
theorem kn54 : jn 0 (xS 4607182418800017408) = 0 := by decide +kernel
set_option maxRecDepth 20000 in
theorem kn55 : xV 4607182418800017408 1074 + xV 4607182418800017408 1074 + xV 4607182418800017408 1074 = 122900016431630196435528686544129273431785699277604943109401915131032337159373481142782880447210876688431000563886104121942394032837041972101671252648203109300331192880747790150053008250343474749232708517095009305290800820783206191594166975604596433812346565455381987871805430942407495253544638427447641401491946547230341416528930014494507517558122535091587882353091654883317765975654794445540120162887762700841583505909191186625857331745388113535087834472691663043545879520827835815005875997773266986341075364738161641196169965595959428436754244894295668672658248523502589074876730982511738655518589338884681271486242387917576807705761487905619968 := by decide +kernel
set_option maxRecDepth 20000 in
theorem kn56 : jn 0 (xS 4607182418800017408) = 0 := by decide +kernel
set_option maxRecDepth 20000 in
theorem kn57 : (122900016431630196435528686544129273431785699277604943109401915131032337159373481142782880447210876688431000563886104121942394032837041972101671252648203109300331192880747790150053008250343474749232708517095009305290800820783206191594166975604596433812346565455381987871805430942407495253544638427447641401491946547230341416528930014494507517558122535091587882353091654883317765975654794445540120162887762700841583505909191186625857331745388113535087834472691663043545879520827835815005875997773266986341075364738161641196169965595959428436754244894295668672658248523502589074876730982511738655518589338884681271486242387917576807705761487905619968 : Int).natAbs < wh := by decide +kernel
set_option maxRecDepth 20000 in
theorem kn58 : ovW (-1) 3 (122900016431630196435528686544129273431785699277604943109401915131032337159373481142782880447210876688431000563886104121942394032837041972101671252648203109300331192880747790150053008250343474749232708517095009305290800820783206191594166975604596433812346565455381987871805430942407495253544638427447641401491946547230341416528930014494507517558122535091587882353091654883317765975654794445540120162887762700841583505909191186625857331745388113535087834472691663043545879520827835815005875997773266986341075364738161641196169965595959428436754244894295668672658248523502589074876730982511738655518589338884681271486242387917576807705761487905619968) 0 = 4607182418800017408 := by decide +kernel
set_option maxRecDepth 20000 in
theorem kn59 : (122900016431630196435528686544129273431785699277604943109401915131032337159373481142782880447210876688431000563886104121942394032837041972101671252648203109300331192880747790150053008250343474749232708517095009305290800820783206191594166975604596433812346565455381987871805430942407495253544638427447641401491946547230341416528930014494507517558122535091587882353091654883317765975654794445540120162887762700841583505909191186625857331745388113535087834472691663043545879520827835815005875997773266986341075364738161641196169965595959428436754244894295668672658248523502589074876730982511738655518589338884681271486242387917576807705761487905619968 : Int).natAbs < wh := by decide +kernel
set_option maxRecDepth 20000 in
theorem kn60 : (FloatKind.f64.format.order 4610479282544200874 4610479282544200874 != some .eq) = false := by decide +kernel
set_option maxRecDepth 20000 in
theorem kn61 : (122900016431630196435528686544129273431785699277604943109401915131032337159373481142782880447210876688431000563886104121942394032837041972101671252648203109300331192880747790150053008250343474749232708517095009305290800820783206191594166975604596433812346565455381987871805430942407495253544638427447641401491946547230341416528930014494507517558122535091587882353091654883317765975654794445540120162887762700841583505909191186625857331745388113535087834472691663043545879520827835815005875997773266986341075364738161641196169965595959428436754244894295668672658248523502589074876730982511738655518589338884681271486242387917576807705761487905619968 : Int).natAbs < wh := by decide +kernel
set_option maxRecDepth 20000 in
theorem kn62 : (FloatKind.f64.format.order 4610479282544200875 4610479282544200875 != some .eq) = false := by decide +kernel
set_option maxRecDepth 20000 in
theorem kn63 : rdW (-1) (dotV [4613937818241073152, 4616189618054758400] [4613937818241073152, 4616189618054758400]) (dotS [4613937818241073152, 4616189618054758400] [4613937818241073152, 4616189618054758400]) = 4627730092099895296 := by decide +kernel
set_option maxRecDepth 20000 in
theorem kn64 : rdW 0 (sumV 1074 [4845873199050653696, 4607182418800017408, 4607182418800017408]) (sumS [4845873199050653696, 4607182418800017408, 4607182418800017408]) = 4845873199050653697 := by decide +kernel
set_option maxRecDepth 20000 in
theorem kn65 : rdW 1 (dotV [] []) (dotS [] []) = 0 := by decide +kernel
set_option maxRecDepth 20000 in
theorem kn66 : (FloatKind.f64.format.order 4617315517961601024 4617315517961601024 != some .eq) = false := by decide +kernel
set_option maxRecDepth 20000 in
theorem kn67 : (FloatKind.f64.format.order 4607182418800017408 4607182418800017408 != some .eq) = false := by decide +kernel
set_option maxRecDepth 20000 in
theorem kn68 : (FloatKind.f64.format.order 0 0 == some .eq) = true := by decide +kernel
set_option maxRecDepth 20000 in
theorem kn69 : (FloatKind.f64.format.order 4627730092099895296 4627730092099895296 == some .eq) = true := by decide +kernel
set_option maxRecDepth 20000 in
theorem kn70 : (FloatKind.f64.format.order 4845873199050653697 4845873199050653697 == some .eq) = true := by decide +kernel
end Go.Proofs.YteedfmghgkmofaaGreatDoor
namespace Go.Proofs.YteedfmghgkmofaaGreatDoor
open Go.RowKit
set_option linter.unusedSimpArgs false
set_option linter.unusedVariables false
set_option exponentiation.threshold 10000
theorem newK_ (w : World) : Calls Tryz.prog 7 #[] w fun e w' => ∃ b, e = .returned (.pointer (some ⟨b, 0, none⟩)) ∧ w.heap.size ≤ b ∧ St w' b 0 0 0 ∧ Kp w w' := by
  refine (new_ w).mono ?_
  rintro e w' ⟨he, hS, g⟩
  exact ⟨_, he, Nat.le_refl _, ⟨_, Rep.zero, hS⟩, g⟩
set_option maxRecDepth 20000 in
set_option maxHeartbeats 400000 in
theorem dotE_ (d : Int) (p p2 : Option Addr) (c c2 : Nat) (n m : Nat) (h : n ≠ m) (w : World) : Calls Tryz.prog 18 #[.int .i64 d, .slice p n c, .slice p2 m c2] w fun e w' => e = .returned (.tuple #[.float .f64 0, .int .i64 1]) ∧ Kp w w' := by
  have t : ((n : Int) != (m : Int)) = true := by simp; omega
  clear h
  go_enter Tryz.func18, Tryz.ntmps18
  go_wp2
  exact bodyPost_ret (v := .tuple #[.float .f64 0, .int .i64 1]) (by simp [results, Tryz.results18, go_sem]) rfl ⟨rfl, (by repeat (with_reducible (first | assumption | exact Kp.refl _ | apply Kp.drew | apply Kp.alloc | apply Kp.drewN | (refine Kp.setCell ?_ (by first | omega | (simp <;> omega)) _) | (refine Kp.trans ?_ (by assumption)))))⟩
set_option maxRecDepth 20000 in
set_option maxHeartbeats 8000000 in
theorem tknown_ (w : World) (hT : Tab w) (hQ : Fq.Tab w) : Calls Tryz.prog 3 #[] w fun e w' => e = .returned (.bool true) ∧ Kp w w' := by
  have hn1 : ∀ w : World, (Op.unary .neg (.float .f64 1)).run Tryz.prog w = .ok (.float .f64 9223372036854775809) w := neg4W false 1 (by decide)
  have hn2 : ∀ w : World, (Op.unary .neg (.float .f64 9218868437227405311)).run Tryz.prog w = .ok (.float .f64 18442240474082181119) w := neg4W false 9218868437227405311 (by decide)
  have hn3 : ∀ w : World, (Op.unary .neg (.float .f64 9218868437227405312)).run Tryz.prog w = .ok (.float .f64 18442240474082181120) w := neg4W false 9218868437227405312 (by decide)
  have ho1 := kn66
  have ho2 := kn67
  have hq1 := kn68
  have hq2 := kn69
  have hq3 := kn70
  have hk : Kp w w := Kp.refl w
  go_enter Tryz.func3, Tryz.ntmps3
  go_wp2_with fail
  refine (newK_ _).mono ?_
  rintro e w9 ⟨bs, rfl, hzb, hs, g⟩
  have hzbs : w.heap.size ≤ bs := Nat.le_trans hk.size hzb
  replace hk := hk.trans g
  clear g hzb
  go_wp2_with fail
  refine (lives_ _ (hT.grown hk) (Fq.Tab.grown hQ hk)).mono ?_
  rintro e w9 ⟨rfl, g⟩
  replace hs := hs.kp g
  replace hk := hk.trans g
  clear g
  have q := stround_ 1 (by decide) (by decide) bs _ _ _ kn1 _ hs (hT.grown hk) (Fq.Tab.grown hQ hk)
  rw [kn2] at q
  go_wp2_with fail
  refine q.mono ?_
  rintro e w9 ⟨rfl, g⟩
  clear q
  replace hs := hs.kp g
  replace hk := hk.trans g
  clear g
  go_wp2_with fail
  refine ((bits4_ 0 kn3) _).mono ?_
  rintro e w' ⟨rfl, hw'⟩; obtain rfl := hw'.symm; clear hw'
  have q := stsign_ bs _ _ _ (by decide) kn4 _ hs
  rw [kn5] at q
  go_wp2_with fail
  refine q.mono ?_
  rintro e w9 ⟨rfl, g⟩
  clear q
  replace hs := hs.kp g
  replace hk := hk.trans g
  clear g
  go_wp2_with fail
  refine (ststate_ bs _ _ _ _ hs).mono ?_
  rintro e w' ⟨rfl, hw'⟩; obtain rfl := hw'.symm; clear hw'
  have q := stover_ (-1) (by decide) (by decide) 3 (by decide) bs _ _ _ kn6 _ hs (Fq.Tab.grown hQ hk)
  rw [kn7] at q
  go_wp2_with fail
  refine q.mono ?_
  rintro e w9 ⟨rfl, g⟩
  clear q
  replace hs := hs.kp g
  replace hk := hk.trans g
  clear g
  go_wp2_with fail
  refine ((bits4_ 0 kn8) _).mono ?_
  rintro e w' ⟨rfl, hw'⟩; obtain rfl := hw'.symm; clear hw'
  have q := stroot_ 1 (by decide) (by decide) bs _ _ _ (by decide) kn9 _ hs (hT.grown hk) (Fq.Tab.grown hQ hk)
  rw [rt0] at q
  go_wp2_with fail
  refine q.mono ?_
  rintro e w9 ⟨rfl, g⟩
  clear q
  replace hs := hs.kp g
  replace hk := hk.trans g
  clear g
  go_wp2_with fail
  refine ((bits4_ 0 kn10) _).mono ?_
  rintro e w' ⟨rfl, hw'⟩; obtain rfl := hw'.symm; clear hw'
  go_wp2_with fail
  refine ((fl4_ 1) _).mono ?_
  rintro e w' ⟨rfl, hw'⟩; obtain rfl := hw'.symm; clear hw'
  go_wp2_with fail
  refine ((fl4_ 1) _).mono ?_
  rintro e w' ⟨rfl, hw'⟩; obtain rfl := hw'.symm; clear hw'
  go_wp2_with fail
  refine (stmul_ 1 1 (by decide) (by decide) bs _ _ _ (by decide) _ hs).mono ?_
  rintro e w9 ⟨⟨v9, rfl⟩, hs9, kb⟩
  replace hk := kb.kp hk hzbs
  rw [kn11, kn12] at hs9
  clear kb hs
  have hs := hs9
  clear hs9
  have q := stround_ (-1) (by decide) (by decide) bs _ _ _ kn13 _ hs (hT.grown hk) (Fq.Tab.grown hQ hk)
  rw [kn14] at q
  go_wp2_with fail
  refine q.mono ?_
  rintro e w9 ⟨rfl, g⟩
  clear q
  replace hs := hs.kp g
  replace hk := hk.trans g
  clear g
  go_wp2_with fail
  refine ((bits4_ 0 kn15) _).mono ?_
  rintro e w' ⟨rfl, hw'⟩; obtain rfl := hw'.symm; clear hw'
  have q := stround_ 1 (by decide) (by decide) bs _ _ _ kn16 _ hs (hT.grown hk) (Fq.Tab.grown hQ hk)
  rw [kn17] at q
  go_wp2_with fail
  refine q.mono ?_
  rintro e w9 ⟨rfl, g⟩
  clear q
  replace hs := hs.kp g
  replace hk := hk.trans g
  clear g
  go_wp2_with fail
  refine ((bits4_ 1 kn18) _).mono ?_
  rintro e w' ⟨rfl, hw'⟩; obtain rfl := hw'.symm; clear hw'
  have q := stsign_ bs _ _ _ (by decide) kn19 _ hs
  rw [kn20] at q
  go_wp2_with fail
  refine q.mono ?_
  rintro e w9 ⟨rfl, g⟩
  clear q
  replace hs := hs.kp g
  replace hk := hk.trans g
  clear g
  go_wp2_with fail
  refine ((fl4_ 1) _).mono ?_
  rintro e w' ⟨rfl, hw'⟩; obtain rfl := hw'.symm; clear hw'
  go_wp2_with fail
  refine ((fl4_ 1) _).mono ?_
  rintro e w' ⟨rfl, hw'⟩; obtain rfl := hw'.symm; clear hw'
  go_wp2_with fail
  refine (stmul_ 1 9223372036854775809 (by decide) (by decide) bs _ _ _ (by decide) _ hs).mono ?_
  rintro e w9 ⟨⟨v9, rfl⟩, hs9, kb⟩
  replace hk := kb.kp hk hzbs
  rw [kn21, kn22] at hs9
  clear kb hs
  have hs := hs9
  clear hs9
  have q := stsign_ bs _ _ _ (by decide) kn23 _ hs
  rw [kn24] at q
  go_wp2_with fail
  refine q.mono ?_
  rintro e w9 ⟨rfl, g⟩
  clear q
  replace hs := hs.kp g
  replace hk := hk.trans g
  clear g
  have q := stround_ 1 (by decide) (by decide) bs _ _ _ kn25 _ hs (hT.grown hk) (Fq.Tab.grown hQ hk)
  rw [kn26] at q
  go_wp2_with fail
  refine q.mono ?_
  rintro e w9 ⟨rfl, g⟩
  clear q
  replace hs := hs.kp g
  replace hk := hk.trans g
  clear g
  go_wp2_with fail
  refine ((bits4_ 0 kn27) _).mono ?_
  rintro e w' ⟨rfl, hw'⟩; obtain rfl := hw'.symm; clear hw'
  go_wp2_with fail
  refine ((fl4_ 9218868437227405311) _).mono ?_
  rintro e w' ⟨rfl, hw'⟩; obtain rfl := hw'.symm; clear hw'
  go_wp2_with fail
  refine ((fl4_ 9218868437227405311) _).mono ?_
  rintro e w' ⟨rfl, hw'⟩; obtain rfl := hw'.symm; clear hw'
  go_wp2_with fail
  refine (stmul_ 9218868437227405311 9218868437227405311 (by decide) (by decide) bs _ _ _ (by decide) _ hs).mono ?_
  rintro e w9 ⟨⟨v9, rfl⟩, hs9, kb⟩
  replace hk := kb.kp hk hzbs
  rw [kn28, kn29] at hs9
  clear kb hs
  have hs := hs9
  clear hs9
  go_wp2_with fail
  refine ((fl4_ 9218868437227405311) _).mono ?_
  rintro e w' ⟨rfl, hw'⟩; obtain rfl := hw'.symm; clear hw'
  go_wp2_with fail
  refine ((fl4_ 9218868437227405311) _).mono ?_
  rintro e w' ⟨rfl, hw'⟩; obtain rfl := hw'.symm; clear hw'
  go_wp2_with fail
  refine (stmul_ 18442240474082181119 9218868437227405311 (by decide) (by decide) bs _ _ _ (by decide) _ hs).mono ?_
  rintro e w9 ⟨⟨v9, rfl⟩, hs9, kb⟩
  replace hk := kb.kp hk hzbs
  rw [kn30, kn31] at hs9
  clear kb hs
  have hs := hs9
  clear hs9
  go_wp2_with fail
  refine (stadd_ 4617315517961601024 1074 rfl (by decide) bs _ _ _ (by decide) _ hs).mono ?_
  rintro e w9 ⟨⟨v9, rfl⟩, hs9, kb⟩
  replace hk := kb.kp hk hzbs
  rw [kn32, kn33] at hs9
  clear kb hs
  have hs := hs9
  clear hs9
  have q := stround_ (-1) (by decide) (by decide) bs _ _ _ kn34 _ hs (hT.grown hk) (Fq.Tab.grown hQ hk)
  rw [kn35] at q
  go_wp2_with fail
  refine q.mono ?_
  rintro e w9 ⟨rfl, g⟩
  clear q
  replace hs := hs.kp g
  replace hk := hk.trans g
  clear g
  have q := stover_ 1 (by decide) (by decide) 0 (by decide) bs _ _ _ kn36 _ hs (Fq.Tab.grown hQ hk)
  rw [kn37] at q
  go_wp2_with fail
  refine q.mono ?_
  rintro e w9 ⟨rfl, g⟩
  clear q
  replace hs := hs.kp g
  replace hk := hk.trans g
  clear g
  go_wp2_with fail
  refine ((bitsNaN4_ 9221120237041090561 loN) _).mono ?_
  rintro e w' ⟨rfl, hw'⟩; obtain rfl := hw'.symm; clear hw'
  go_wp2_with fail
  refine ((fl4_ 9218868437227405312) _).mono ?_
  rintro e w' ⟨rfl, hw'⟩; obtain rfl := hw'.symm; clear hw'
  go_wp2_with fail
  refine (stadd_ 9218868437227405312 1074 rfl (by decide) bs _ _ _ (by decide) _ hs).mono ?_
  rintro e w9 ⟨⟨v9, rfl⟩, hs9, kb⟩
  replace hk := kb.kp hk hzbs
  rw [kn38, kn39] at hs9
  clear kb hs
  have hs := hs9
  clear hs9
  go_wp2_with fail
  refine (ststate_ bs _ _ _ _ hs).mono ?_
  rintro e w' ⟨rfl, hw'⟩; obtain rfl := hw'.symm; clear hw'
  have q := stsign_ bs _ _ _ (by decide) kn40 _ hs
  rw [kn41] at q
  go_wp2_with fail
  refine q.mono ?_
  rintro e w9 ⟨rfl, g⟩
  clear q
  replace hs := hs.kp g
  replace hk := hk.trans g
  clear g
  have q := stround_ (-1) (by decide) (by decide) bs _ _ _ kn42 _ hs (hT.grown hk) (Fq.Tab.grown hQ hk)
  rw [kn43] at q
  go_wp2_with fail
  refine q.mono ?_
  rintro e w9 ⟨rfl, g⟩
  clear q
  replace hs := hs.kp g
  replace hk := hk.trans g
  clear g
  go_wp2_with fail
  refine ((bits4_ 9218868437227405312 kn44) _).mono ?_
  rintro e w' ⟨rfl, hw'⟩; obtain rfl := hw'.symm; clear hw'
  go_wp2_with fail
  refine ((fl4_ 9218868437227405312) _).mono ?_
  rintro e w' ⟨rfl, hw'⟩; obtain rfl := hw'.symm; clear hw'
  go_wp2_with fail
  refine (stadd_ 18442240474082181120 1074 rfl (by decide) bs _ _ _ (by decide) _ hs).mono ?_
  rintro e w9 ⟨⟨v9, rfl⟩, hs9, kb⟩
  replace hk := kb.kp hk hzbs
  rw [kn45, kn46] at hs9
  clear kb hs
  have hs := hs9
  clear hs9
  go_wp2_with fail
  refine (stadd_ 4607182418800017408 1074 rfl (by decide) bs _ _ _ (by decide) _ hs).mono ?_
  rintro e w9 ⟨⟨v9, rfl⟩, hs9, kb⟩
  replace hk := kb.kp hk hzbs
  rw [kn47] at hs9
  clear kb hs
  have hs := hs9
  clear hs9
  go_wp2_with fail
  refine (ststate_ bs _ _ _ _ hs).mono ?_
  rintro e w' ⟨rfl, hw'⟩; obtain rfl := hw'.symm; clear hw'
  have q := stsign_ bs _ _ _ (by decide) kn48 _ hs
  rw [kn49] at q
  go_wp2_with fail
  refine q.mono ?_
  rintro e w9 ⟨rfl, g⟩
  clear q
  replace hs := hs.kp g
  replace hk := hk.trans g
  clear g
  have q := stround_ (-1) (by decide) (by decide) bs _ _ _ kn50 _ hs (hT.grown hk) (Fq.Tab.grown hQ hk)
  rw [kn51] at q
  go_wp2_with fail
  refine q.mono ?_
  rintro e w9 ⟨rfl, g⟩
  clear q
  replace hs := hs.kp g
  replace hk := hk.trans g
  clear g
  go_wp2_with fail
  refine ((bitsNaN4_ 9221120237041090561 loN) _).mono ?_
  rintro e w' ⟨rfl, hw'⟩; obtain rfl := hw'.symm; clear hw'
  clear hs hzbs
  go_wp2_with fail
  refine (newK_ _).mono ?_
  rintro e w9 ⟨bt, rfl, hzb, hs, g⟩
  have hzbt : w.heap.size ≤ bt := Nat.le_trans hk.size hzb
  replace hk := hk.trans g
  clear g hzb
  go_wp2_with fail
  refine (stadd_ 4607182418800017408 1074 rfl (by decide) bt _ _ _ (by decide) _ hs).mono ?_
  rintro e w9 ⟨⟨v9, rfl⟩, hs9, kb⟩
  replace hk := kb.kp hk hzbt
  rw [kn52, kn53] at hs9
  clear kb hs
  have hs := hs9
  clear hs9
  go_wp2_with fail
  refine (stadd_ 4607182418800017408 1074 rfl (by decide) bt _ _ _ (by decide) _ hs).mono ?_
  rintro e w9 ⟨⟨v9, rfl⟩, hs9, kb⟩
  replace hk := kb.kp hk hzbt
  rw [kn54] at hs9
  clear kb hs
  have hs := hs9
  clear hs9
  go_wp2_with fail
  refine (stadd_ 4607182418800017408 1074 rfl (by decide) bt _ _ _ (by decide) _ hs).mono ?_
  rintro e w9 ⟨⟨v9, rfl⟩, hs9, kb⟩
  replace hk := kb.kp hk hzbt
  rw [kn55, kn56] at hs9
  clear kb hs
  have hs := hs9
  clear hs9
  have q := stover_ (-1) (by decide) (by decide) 3 (by decide) bt _ _ _ kn57 _ hs (Fq.Tab.grown hQ hk)
  rw [kn58] at q
  go_wp2_with fail
  refine q.mono ?_
  rintro e w9 ⟨rfl, g⟩
  clear q
  replace hs := hs.kp g
  replace hk := hk.trans g
  clear g
  have q := stroot_ (-1) (by decide) (by decide) bt _ _ _ (by decide) kn59 _ hs (hT.grown hk) (Fq.Tab.grown hQ hk)
  rw [rt3d] at q
  go_wp2_with fail
  refine q.mono ?_
  rintro e w9 ⟨rfl, g⟩
  clear q
  replace hs := hs.kp g
  replace hk := hk.trans g
  clear g
  go_wp2_with fail
  refine ((bits4_ 4610479282544200874 kn60) _).mono ?_
  rintro e w' ⟨rfl, hw'⟩; obtain rfl := hw'.symm; clear hw'
  have q := stroot_ 1 (by decide) (by decide) bt _ _ _ (by decide) kn61 _ hs (hT.grown hk) (Fq.Tab.grown hQ hk)
  rw [rt3u] at q
  go_wp2_with fail
  refine q.mono ?_
  rintro e w9 ⟨rfl, g⟩
  clear q
  replace hs := hs.kp g
  replace hk := hk.trans g
  clear g
  go_wp2_with fail
  refine ((bits4_ 4610479282544200875 kn62) _).mono ?_
  rintro e w' ⟨rfl, hw'⟩; obtain rfl := hw'.symm; clear hw'
  clear hs hzbt
  go_wp2_with fail
  have k1 := (hk.alloc (.cells #[.float .f64 4607182418800017408, .float .f64 4611686018427387904] 27)).alloc (.cells #[.float .f64 4613937818241073152] 27)
  refine (dotE_ 1 _ _ 2 1 2 1 (by decide) _).mono ?_
  rintro e x1 ⟨rfl, g⟩
  replace hk := k1.trans g
  clear g k1
  have q := dot_ 1 (by decide) (by decide) 1074 rfl none none 0 0 [] [] (by simp) (by simp) (by simp) rfl x1 (Or.inl rfl) (Or.inl rfl) (hT.grown hk) (Fq.Tab.grown hQ hk)
  rw [kn65] at q
  go_wp2_with fail
  refine q.mono ?_
  rintro e x2 ⟨rfl, g⟩
  replace hk := hk.trans g
  clear g q
  go_wp2_with fail
  have k1 := hk.alloc (.cells #[.float .f64 4613937818241073152, .float .f64 4616189618054758400] 27)
  have q := fun (W : World) (b : Nat) (h1 : W.cell? ⟨b, 0, none⟩ = some (.float .f64 4613937818241073152)) (h2 : W.cell? ⟨b, 1, none⟩ = some (.float .f64 4616189618054758400)) (hk : Kp w W) => squares_ (-1) (by decide) (by decide) 1074 rfl (some ⟨b, 0, none⟩) 2 [4613937818241073152, 4616189618054758400] (by simp) (by simp) W (Or.inr ⟨b, 0, rfl, fun j hj => by
    have : j = 0 ∨ j = 1 := by simp at hj; omega
    rcases this with rfl | rfl
    · exact h1
    · exact h2⟩) (hT.grown hk) (Fq.Tab.grown hQ hk)
  rw [kn63] at q
  refine (q _ _ (by simp [go_sem, World.cell?_alloc_past]) (by simp [go_sem, World.cell?_alloc_past]) k1).mono ?_
  rintro e x3 ⟨rfl, g⟩
  replace hk := k1.trans g
  clear g q k1
  go_wp2_with fail
  have k1 := hk.alloc (.cells #[.float .f64 4845873199050653696, .float .f64 4607182418800017408, .float .f64 4607182418800017408] 27)
  have q := fun (W : World) (b : Nat) (h1 : W.cell? ⟨b, 0, none⟩ = some (.float .f64 4845873199050653696)) (h2 : W.cell? ⟨b, 1, none⟩ = some (.float .f64 4607182418800017408)) (h3 : W.cell? ⟨b, 2, none⟩ = some (.float .f64 4607182418800017408)) (hk : Kp w W) => total_ 0 (by decide) (by decide) 1074 rfl (some ⟨b, 0, none⟩) 3 [4845873199050653696, 4607182418800017408, 4607182418800017408] (by simp) (by simp) W (Or.inr ⟨b, 0, rfl, fun j hj => by
    have : j = 0 ∨ j = 1 ∨ j = 2 := by simp at hj; omega
    rcases this with rfl | rfl | rfl
    · exact h1
    · exact h2
    · exact h3⟩) (hT.grown hk) (Fq.Tab.grown hQ hk)
  rw [kn64] at q
  refine (q _ _ (by simp [go_sem, World.cell?_alloc_past]) (by simp [go_sem, World.cell?_alloc_past]) (by simp [go_sem, World.cell?_alloc_past]) k1).mono ?_
  rintro e x4 ⟨rfl, g⟩
  replace hk := k1.trans g
  clear g q k1
  go_wp2
  exact bodyPost_ret (v := .bool true) (by simp [results, Tryz.results3, go_sem]) rfl ⟨rfl, hk⟩
end Go.Proofs.YteedfmghgkmofaaGreatDoor
