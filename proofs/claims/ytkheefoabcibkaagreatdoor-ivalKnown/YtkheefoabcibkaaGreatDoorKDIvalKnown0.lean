import Derived.Test.YtkheefoabcibkaaGreatDoorKIYy
import Derived.Laws.FloatArith
import Derived.WalkKit
import Derived.ProofKit
import Derived.RowKit3
import Derived.Deep.RegionHeld3
import Derived.WalkSpells
import Derived.StillTactics
import Derived.Deep.QuietTactic
import Derived.BigQuiet
import Derived.Below
import Derived.Laws.BitsAllLaws
import Derived.Laws.Slices
import Derived.Laws.Bits64b
import Derived.RowKit
import Derived.Deep.OwnRows
import Derived.OwnWalk
import Derived.Laws.Small
import Derived.Deep.RegionWith
import Derived.WalkMore
import Derived.ScopeJumps
import Derived.Scope
import Derived.Deep.CutRange
import Derived.Deep.DeepCutAuto
namespace Go.Proofs.YtkheefoabcibkaaGreatDoor
open Go.RowKit
namespace Fq
theorem rlo_lt (a b : Nat) (h : a < 18446744073709551616) : rlo a b < 18446744073709551616 := by
  unfold rlo; split
  · exact pla_lt a h
  · omega
theorem rhi_lt (a b : Nat) (h : b < 18446744073709551616) : rhi a b < 18446744073709551616 := by
  unfold rhi; split
  · exact pla_lt b h
  · omega
end Fq
end Go.Proofs.YtkheefoabcibkaaGreatDoor
namespace Go.Proofs.YtkheefoabcibkaaGreatDoor
open Go.RowKit
namespace Fq
theorem void_read (a b : Nat) : decide (rlo a b = 9218868437227405312 ∧ rhi a b = 18442240474082181120) = !(snd a b) := by
  by_cases c : snd a b = true
  · rw [c]
    have h : a ≠ 9218868437227405312 := by
      intro h; rw [h] at c; simp [snd] at c
    have : rlo a b ≠ 9218868437227405312 := by simp only [rlo, c, if_true, pla]; split <;> omega
    simp [this]
  · have c : snd a b = false := by simpa using c
    simp [rlo, rhi, c]
def nlo (a b : Nat) : Nat := if snd a b then pla a else 0
def nhi (a b : Nat) : Nat := if snd a b then pla b else 0
def ner (a b : Nat) : Int := if snd a b then 0 else 1
end Fq
end Go.Proofs.YtkheefoabcibkaaGreatDoor
namespace Go.Proofs.YtkheefoabcibkaaGreatDoor
open Go.RowKit
theorem len32_up (a K : Nat) (h : len32 a ≤ K) : a < 4294967296 ^ K := by
  by_cases c : a < 4294967296 ^ K
  · exact c
  · have := len32_gt a K (by omega); omega
theorem mul_len (a b K : Nat) (ha : len32 a ≤ K) (hb : len32 b ≤ K) : len32 (a * b) ≤ K + K := by
  by_cases c : len32 (a * b) ≤ K + K
  · exact c
  · exfalso
    have g1 := len32_lt (a * b) (K + K) (by omega)
    have g4 := Nat.mul_lt_mul'' (len32_up a K ha) (len32_up b K hb)
    rw [← Nat.pow_add] at g4
    omega
end Go.Proofs.YtkheefoabcibkaaGreatDoor
namespace Go.Proofs.YtkheefoabcibkaaGreatDoor
open Go.RowKit
theorem RI.tries {v r e : Nat} (h : RI v r (e + 1)) : r ||| 2 ^ e = r + 2 ^ e ∧ r + 2 ^ e < 4294967296 ∧ (r + 2 ^ e) * (r + 2 ^ e) < 18446744073709551616 ∧ r < 4294967296 ∧ 2 ^ e < 4294967296 := by
  obtain ⟨⟨x, hx⟩, h2, h3, h4⟩ := h
  have hp : 0 < 2 ^ e := Nat.pow_pos (by omega)
  rw [Nat.pow_succ] at h2 hx
  have h5 : r + 2 ^ e < 4294967296 := by omega
  refine ⟨?_, h5, mul64 h5 h5, by omega, by omega⟩
  have := or_low (2 ^ e) x (e + 1) (by rw [Nat.pow_succ]; omega)
  rw [Nat.pow_succ, ← hx] at this
  rw [Nat.or_comm, this]
  omega
theorem RI.stay {v r e : Nat} (h : RI v r (e + 1)) (hle : ¬ (r + 2 ^ e) * (r + 2 ^ e) ≤ v) : RI v r e := by
  obtain ⟨⟨x, hx⟩, h2, h3, h4⟩ := h
  have hp : 0 < 2 ^ e := Nat.pow_pos (by omega)
  rw [Nat.pow_succ] at h2
  exact ⟨⟨2 * x, by rw [hx, Nat.pow_succ, Nat.mul_comm 2 x, Nat.mul_assoc, Nat.mul_comm 2]⟩, by omega, h3, by omega⟩
end Go.Proofs.YtkheefoabcibkaaGreatDoor
namespace Go.Proofs.YtkheefoabcibkaaGreatDoor
open Go.RowKit
def rootN (a : Nat) : List Int × Bool × Int := if 16384 < len32 a then ([], false, 2) else (dig (rtN a), decide (a = rtN a * rtN a), 0)
theorem dig_len_zero (n : Nat) : (dig n).length = 0 ↔ n = 0 := by
  constructor
  · intro e
    have := List.length_eq_zero_iff.1 e
    have h := val_dig n
    rw [this] at h
    exact h.symm
  · intro e
    rw [e, dig_zero]; rfl
end Go.Proofs.YtkheefoabcibkaaGreatDoor
namespace Go.Proofs.YtkheefoabcibkaaGreatDoor
open Go.RowKit
theorem bd_max (x y : Int) (hx : BdZ x) (hy : BdZ y) : BdZ (max x y) := by unfold BdZ at *; omega
end Go.Proofs.YtkheefoabcibkaaGreatDoor
namespace Go.Proofs.YtkheefoabcibkaaGreatDoor
open Go.RowKit
theorem max7_ (n n' : Bool) (m m' : Nat) (hm : m ≤ 9218868437227405312) (hm' : m' ≤ 9218868437227405312) (h1 : Fq.wD n m ≠ 9223372036854775808) (h2 : Fq.wD n' m' ≠ 9223372036854775808) (ts : Array TypeId) (t : TypeId) (w : World) : (Builtin.max_ ts t #[.float .f64 (Fq.wD n m), .float .f64 (Fq.wD n' m')]).run Tryz.prog w = .ok (.float .f64 (if Fq.plz n' m' > Fq.plz n m then Fq.wD n' m' else Fq.wD n m)) w := by
  have ho := Fq.ordD n n' m m' hm hm'
  rcases Int.lt_trichotomy (Fq.plz n m) (Fq.plz n' m') with g | g | g
  · rw [Fq.cmp_lt g] at ho
    rw [if_pos (by omega)]
    generalize Fq.wD n m = X at ho ⊢
    generalize Fq.wD n' m' = Y at ho ⊢
    simp [Builtin.max_, Builtin.max2, ho]
  · rw [Fq.cmp_eq g] at ho
    have e : Fq.wD n m = Fq.wD n' m' := by
      have z1 : n = true → m ≠ 0 := fun h z => h1 (by rw [h, z]; rfl)
      have z2 : n' = true → m' ≠ 0 := fun h z => h2 (by rw [h, z]; rfl)
      unfold Fq.wD
      unfold Fq.plz at g
      cases n <;> cases n' <;> simp at z1 z2 g ⊢ <;> omega
    rw [if_neg (by omega)]
    rw [← e] at ho ⊢
    generalize Fq.wD n m = X at ho ⊢
    simp [Builtin.max_, Builtin.max2, ho]
  · rw [Fq.cmp_gt g] at ho
    rw [if_neg (by omega)]
    generalize Fq.wD n m = X at ho ⊢
    generalize Fq.wD n' m' = Y at ho ⊢
    simp [Builtin.max_, Builtin.max2, ho]
end Go.Proofs.YtkheefoabcibkaaGreatDoor
namespace Go.Proofs.YtkheefoabcibkaaGreatDoor
open Go.RowKit
theorem max9_ (x y : Int) (hx : BdZ x) (hy : BdZ y) (ts : Array TypeId) (t : TypeId) (w : World) : (Builtin.max_ ts t #[.float .f64 (pw x), .float .f64 (pw y)]).run Tryz.prog w = .ok (.float .f64 (pw (max x y))) w := by
  have h := max7_ (decide (x < 0)) (decide (y < 0)) x.natAbs y.natAbs (abs_pw x hx) (abs_pw y hy) (pw_ne x hx) (pw_ne y hy) ts t w
  rw [plz_pw, plz_pw] at h
  have e : (if y > x then pw y else pw x) = pw (max x y) := by
    by_cases c : y > x
    · rw [if_pos c, show max x y = y from by omega]
    · rw [if_neg c, show max x y = x from by omega]
  exact e ▸ h
end Go.Proofs.YtkheefoabcibkaaGreatDoor
namespace Go.Proofs.YtkheefoabcibkaaGreatDoor
open Go.RowKit
theorem flip8 (n : Bool) (m : Nat) (hm : m < 9223372036854775808) : Fq.wD n m ^^^ 9223372036854775808 = Fq.wD (!n) m := by
  obtain ⟨x, hx⟩ : ∃ x, x = Fq.wD n m := ⟨_, rfl⟩
  have h1 : (x ^^^ 9223372036854775808) % 2 ^ 63 = x % 2 ^ 63 := by
    rw [Nat.xor_mod_two_pow, show (9223372036854775808 : Nat) % 2 ^ 63 = 0 from by decide, Nat.xor_zero]
  have h2 : (x ^^^ 9223372036854775808) / 2 ^ 63 = x / 2 ^ 63 ^^^ 1 := by
    rw [← Nat.shiftRight_eq_div_pow, ← Nat.shiftRight_eq_div_pow, Nat.shiftRight_xor_distrib, show (9223372036854775808 : Nat) >>> 63 = 1 from by decide]
  rw [show (2 : Nat) ^ 63 = 9223372036854775808 from by decide] at h1 h2
  rw [← hx]
  generalize hz : x ^^^ 9223372036854775808 = z at h1 h2 ⊢
  clear hz
  cases n
  · have e : x = m := by rw [hx]; unfold Fq.wD; simp
    rw [e, Nat.div_eq_of_lt hm, show (0 : Nat) ^^^ 1 = 1 from by decide] at h2
    rw [e, Nat.mod_eq_of_lt hm] at h1
    unfold Fq.wD
    simp
    omega
  · have e : x = 9223372036854775808 + m := by rw [hx]; unfold Fq.wD; simp
    have e2 : x / 9223372036854775808 = 1 := by omega
    have e3 : x % 9223372036854775808 = m := by omega
    rw [e2, show (1 : Nat) ^^^ 1 = 0 from by decide] at h2
    rw [e3] at h1
    unfold Fq.wD
    simp
    omega
theorem negW8 (n : Bool) (m : Nat) (hm : m < 9223372036854775808) (w : World) : (Op.unary .neg (.float .f64 (Fq.wD n m))).run Tryz.prog w = .ok (.float .f64 (Fq.wD (!n) m)) w := by
  have h : Op.negFloat .f64 (Fq.wD n m) = Fq.wD (!n) m := by
    unfold Op.negFloat
    exact flip8 n m hm
  rw [← h]; rfl
set_option linter.unusedVariables false
end Go.Proofs.YtkheefoabcibkaaGreatDoor
namespace Go.Proofs.YtkheefoabcibkaaGreatDoor
open Go.RowKit
/-- what is lacking of x, where a square lies next to it -/
theorem lack_exact2 {x V np op t1 off : Int} {W Tn T5 T6 : Nat} (hW : ∃ e, W = 2 ^ e) (dx : ((1125899906842624 * W : Nat) : Int) ∣ x) (dV : (W : Int) ∣ V) (hu : (x - V).natAbs ≤ 9007199254740992 * W) (v1 : 20282409603651670423947251286016 * W ≤ V.natAbs) (v2 : V.natAbs < 81129638414606681695789005144064 * W)
    (k0 : Nr V np Tn) (hop : op = V - np) (k1 : Nr (x - np) t1 T5) (k2 : Nr (t1 - op) off T6) : off = x - V := by
  have hWp : 0 < W := by obtain ⟨e, rfl⟩ := hW; exact Nat.two_pow_pos e
  have h53 : ∃ e, 9007199254740992 * W = 2 ^ e := by
    have := two_times hW 53
    rwa [show (2 : Nat) ^ 53 = 9007199254740992 from by decide] at this
  have h50 : ∃ e, 1125899906842624 * W = 2 ^ e := by
    have := two_times hW 50
    rwa [show (2 : Nat) ^ 50 = 1125899906842624 from by decide] at this
  have hTn : Tn ≤ 9007199254740992 * W := two_half k0.two h53 (by rcases k0.low with h | h <;> omega)
  have hWT : 1125899906842624 * W ∣ Tn := two_dvd k0.two h50 (by have := k0.lt; omega)
  have dn : ((1125899906842624 * W : Nat) : Int) ∣ np := Int.dvd_trans (Int.natCast_dvd_natCast.2 hWT) k0.dvd
  have f1 : FL (x - np) := fl_of h50 (Int.dvd_sub dx dn) (by have := k0.near; omega)
  have e1 := k1.fix f1
  have hWx : (W : Int) ∣ x := Int.dvd_trans (Int.natCast_dvd_natCast.2 (Nat.dvd_mul_left _ _)) dx
  have f2 : FL (x - V) := fl_of hW (Int.dvd_sub hWx dV) (by omega)
  have e2 : t1 - op = x - V := by omega
  rw [e2] at k2
  exact k2.fix f2
theorem sq_lt_sq {a b : Nat} (h : a * a < b * b) : a < b := by
  rcases Nat.lt_or_ge a b with c | c
  · exact c
  · exact absurd (Nat.mul_le_mul c c) (by omega)
theorem pow4 (t : Nat) : 4 ^ t = 2 ^ t * 2 ^ t := by rw [show (4 : Nat) = 2 * 2 from rfl, Nat.mul_pow]
theorem isrt_scale {n w t h : Nat} (hw : IsRt n w) (hh : IsRt (n * 4 ^ t) h) : w * 2 ^ t ≤ h ∧ h < (w + 1) * 2 ^ t ∧ (h * h = n * 4 ^ t ↔ w * w = n) ∧ (w * w = n → h = w * 2 ^ t) := by
  have hp := Nat.two_pow_pos t
  have e1 : w * 2 ^ t * (w * 2 ^ t) = w * w * 4 ^ t := by rw [pow4]; ac_rfl
  have e2 : (w + 1) * 2 ^ t * ((w + 1) * 2 ^ t) = (w + 1) * (w + 1) * 4 ^ t := by rw [pow4]; ac_rfl
  have h4 : 0 < 4 ^ t := by rw [pow4]; exact Nat.mul_pos hp hp
  have g1 := Nat.mul_le_mul_right (4 ^ t) hw.1
  have g2 := Nat.mul_lt_mul_of_pos_right hw.2 h4
  have a1 : w * 2 ^ t ≤ h := by
    have : w * 2 ^ t < h + 1 := sq_lt_sq (by have := hh.2; omega)
    omega
  have a2 : h < (w + 1) * 2 ^ t := sq_lt_sq (by have := hh.1; omega)
  have a3 : w * w = n → h = w * 2 ^ t := fun e => by
    rw [e] at e1
    have : h < w * 2 ^ t + 1 := sq_lt_sq (by
      have e5 : (w * 2 ^ t + 1) * (w * 2 ^ t + 1) = w * 2 ^ t * (w * 2 ^ t) + (2 * (w * 2 ^ t) + 1) := by rw [Nat.add_mul, Nat.mul_add]; omega
      have := hh.1
      omega)
    omega
  refine ⟨a1, a2, ⟨fun e => ?_, fun e => by rw [a3 e, e1, e]⟩, a3⟩
  -- h * h = n * 4^t: then h is a multiple of 2^t
  have hd : 2 ^ t ∣ h := by
    have : 2 ^ t * 2 ^ t ∣ h * h := by rw [e, pow4]; exact Nat.dvd_mul_left _ _
    have h5 : (2 ^ t) ^ 2 ∣ h ^ 2 := by rw [Nat.pow_two, Nat.pow_two]; exact this
    exact (Nat.pow_dvd_pow_iff (by decide)).1 h5
  obtain ⟨q, hq⟩ := hd
  rw [Nat.mul_comm] at hq
  have hqw : q = w := by
    have b1 : w * 2 ^ t < (q + 1) * 2 ^ t := by rw [Nat.add_mul]; omega
    have b2 : q * 2 ^ t < (w + 1) * 2 ^ t := by omega
    have := Nat.lt_of_mul_lt_mul_right b1
    have := Nat.lt_of_mul_lt_mul_right b2
    omega
  rw [hq, hqw, e1] at e
  exact Nat.eq_of_mul_eq_mul_right h4 e
/-- a root is rounded alike, however finely it is told -/
theorem root_sticky (n w t h : Nat) (hw : IsRt n w) (hh : IsRt (n * 4 ^ t) h) (big : 9007199254740992 ≤ w) (d : Int) : rU d 53 (2 * h + (if h * h = n * 4 ^ t then 0 else 1)) 1 = rU d 53 ((2 * w + (if w * w = n then 0 else 1)) * 2 ^ t) 1 := by
  obtain ⟨a1, a2, a3, a4⟩ := isrt_scale hw hh
  have hp := Nat.two_pow_pos t
  obtain ⟨T, hT⟩ : ∃ T, T = 2 ^ t := ⟨_, rfl⟩
  obtain ⟨M, hM⟩ : ∃ M, M = w * T := ⟨_, rfl⟩
  have e1 : (w + 1) * T = M + T := by rw [Nat.add_mul, Nat.one_mul, hM]
  rw [← hT] at a1 a2 a4 hp ⊢
  rw [e1] at a2
  rw [← hM] at a1 a4
  have e2 : (2 * w + (if w * w = n then 0 else 1)) * T = 2 * M + (if w * w = n then 0 else T) := by
    rw [Nat.add_mul, Nat.mul_assoc, ← hM]
    split <;> simp
  rw [e2]
  obtain ⟨E, hE⟩ : ∃ E, E = rE 53 (2 * h + (if h * h = n * 4 ^ t then 0 else 1)) 1 := ⟨_, rfl⟩
  have hs := (rE_spec 53 (2 * h + (if h * h = n * 4 ^ t then 0 else 1)) 1 (by decide) (by decide)).1
  rw [← hE, Nat.one_mul, Nat.pow_add, pw53] at hs
  have hMb : 9007199254740992 * T ≤ M := by rw [hM]; exact Nat.mul_le_mul_right _ big
  have hEt : t + 2 ≤ E := by
    refine Decidable.byContradiction fun h9 => ?_
    have : 2 ^ E ≤ 2 ^ (t + 1) := Nat.pow_le_pow_right (by decide) (by omega)
    rw [Nat.pow_succ, ← hT] at this
    omega
  refine rU_sticky d 53 _ (2 * M + (if w * w = n then 0 else T)) 1 (2 * T) w (2 * (h - M) + (if h * h = n * 4 ^ t then 0 else 1)) (if w * w = n then 0 else T) (2 ^ (E - t - 2)) (by decide) (by decide) ?_ ?_ ?_ ?_ ?_ ?_
  · have : w * (2 * T) = 2 * M := by rw [hM]; ac_rfl
    omega
  · split <;> omega
  · have : w * (2 * T) = 2 * M := by rw [hM]; ac_rfl
    omega
  · split <;> omega
  · by_cases c : w * w = n
    · rw [if_pos c, if_pos (a3.2 c), a4 c]; simp
    · rw [if_neg c, if_neg (fun e => c (a3.1 e))]
      constructor <;> intro h9 <;> omega
  · rw [← hE, hT, Nat.one_mul, show 2 * (2 * 2 ^ t * 2 ^ (E - t - 2)) = 2 ^ 2 * 2 ^ t * 2 ^ (E - t - 2) from by rw [show (2 : Nat) ^ 2 = 2 * 2 from rfl]; ac_rfl, ← Nat.pow_add, ← Nat.pow_add]
    congr 1
    omega
/-- the model's root, digit by digit -/
theorem rootFrom_is (n : Nat) : ∀ (todo root : Nat), root * root ≤ n → n < (root + 2 ^ todo) * (root + 2 ^ todo) → IsRt n (Ieee.Datum.rootFrom n todo root)
  | 0, root, h1, h2 => by
    unfold Ieee.Datum.rootFrom
    exact ⟨h1, by rw [Nat.pow_zero] at h2; exact h2⟩
  | todo + 1, root, h1, h2 => by
    unfold Ieee.Datum.rootFrom
    simp only [Nat.shiftLeft_eq, Nat.one_mul]
    refine rootFrom_is n todo _ ?_ ?_
    · split
      · assumption
      · exact h1
    · split
      · rw [Nat.add_assoc, show 2 ^ todo + 2 ^ todo = 2 ^ (todo + 1) from by rw [Nat.pow_succ]; omega]; exact h2
      · omega
/-- the number of least places that is rounded as the root of A least places is -/
def rtH (A : Nat) : Nat := 2 * rtN (A * 4 ^ 536) + (if rtN (A * 4 ^ 536) * rtN (A * 4 ^ 536) = A * 4 ^ 536 then 0 else 1)
theorem rt_H (A n w t : Nat) (hA : A * 4 ^ 536 = n * 4 ^ t) (hw : IsRt n w) (big : 9007199254740992 ≤ w) (d : Int) : rU d 53 (rtH A) 1 = rU d 53 ((2 * w + (if w * w = n then 0 else 1)) * 2 ^ t) 1 := by
  have hh : IsRt (n * 4 ^ t) (rtN (A * 4 ^ 536)) := by rw [← hA]; exact rtN_is _
  have h := root_sticky n w t _ hw hh big d
  unfold rtH
  rw [hA] at h ⊢
  exact h
end Go.Proofs.YtkheefoabcibkaaGreatDoor
namespace Go.Proofs.YtkheefoabcibkaaGreatDoor
open Go.RowKit
theorem lt_two_log (n : Nat) : n < 2 ^ (n.log2 + 1) := Nat.lt_log2_self
/-- the model's root of a number that is far from the ends -/
theorem root_w (m : Nat) (h1 : 2580562586483294208 ≤ m) (h2 : m ≤ 6633802251116740608) : FloatKind.f64.format.sqrt (Fq.wD false m) = some (Fq.wD false (finU 53 2098 9218868437227405311 9218868437227405312 0 (rU 0 53 (rtH (Fq.vV Ieee.double m)) 1))) := by
  show Ieee.double.sqrt _ = _
  unfold Ieee.Format.sqrt
  have b1 : ¬ m < 4503599627370496 := by omega
  rw [Fq.read_fin _ _ (by rw [Fq.rgD false m (by omega), Fq.infD]; omega), Fq.rgD false m (by omega), Fq.ngD false m (by omega), lpD9, fbD9]
  obtain ⟨A, hA⟩ : ∃ A, A = Fq.vV Ieee.double m := ⟨_, rfl⟩
  have hAe := hA
  unfold Fq.vV at hAe
  have hea : Fq.eE Ieee.double m = m / 4503599627370496 - 1 := by unfold Fq.eE; rw [Fq.binD, if_neg b1]
  have hma : Fq.mM Ieee.double m = 4503599627370496 + m % 4503599627370496 := by unfold Fq.mM; rw [Fq.binD, if_neg b1]
  obtain ⟨e, hee⟩ : ∃ e, e = Fq.eE Ieee.double m := ⟨_, rfl⟩
  obtain ⟨a, ha⟩ : ∃ a, a = Fq.mM Ieee.double m := ⟨_, rfl⟩
  rw [← hee] at hea
  rw [← ha] at hma
  rw [← hee, ← ha] at hAe
  rw [← hee, ← ha, ← hA]
  have a1 : 4503599627370496 ≤ a := by omega
  have a2 : a < 9007199254740992 := by omega
  have e1 : 572 ≤ e := by omega
  have e2 : e ≤ 1472 := by omega
  have l1 : a.log2 = 52 := by
    have hb := blen_uniq a 52 (by rw [show (2 : Nat) ^ 52 = 4503599627370496 from by decide]; exact a1) (by rw [show (2 : Nat) ^ (52 + 1) = 9007199254740992 from by decide]; exact a2)
    have := log2_blen a (by omega)
    omega
  clear hee ha hea hma hA h1 h2 b1
  unfold Ieee.Datum.root
  simp only
  rw [if_neg (by omega), if_neg (by simp), l1]
  simp only [Option.map_some]
  unfold Ieee.Format.write
  simp only
  rw [show 2 * (52 + 2) - 52 = 56 from rfl]
  obtain ⟨j, hj⟩ : ∃ j : Nat, j = ((-1074 + (e : Int) - ((56 : Nat) : Int)) % 2).toNat := ⟨_, rfl⟩
  have hj2 : (j : Int) = (-1074 + (e : Int) - 56) % 2 := by omega
  rw [← hj, Nat.shiftLeft_eq]
  obtain ⟨n, hn⟩ : ∃ n, n = a * 2 ^ (56 + j) := ⟨_, rfl⟩
  rw [← hn]
  have hnb : 324518553658426726783156020576256 ≤ n := by
    rw [hn, Nat.pow_add]
    have hp := Nat.two_pow_pos j
    have h5 : 4503599627370496 * (2 ^ 56 * 1) ≤ a * (2 ^ 56 * 2 ^ j) := Nat.mul_le_mul a1 (Nat.mul_le_mul_left _ hp)
    rw [show (2 : Nat) ^ 56 = 72057594037927936 from by decide] at h5 ⊢
    omega
  have hrt : IsRt n (Ieee.Datum.rootFrom n (n.log2 / 2 + 1) 0) := by
    refine rootFrom_is n _ 0 (by omega) ?_
    have h5 := lt_two_log n
    have h6 : 2 ^ (n.log2 + 1) ≤ 2 ^ (n.log2 / 2 + 1) * 2 ^ (n.log2 / 2 + 1) := by
      rw [← Nat.pow_add]; exact Nat.pow_le_pow_right (by decide) (by omega)
    rw [Nat.zero_add]
    omega
  obtain ⟨w, hw⟩ : ∃ w, w = Ieee.Datum.rootFrom n (n.log2 / 2 + 1) 0 := ⟨_, rfl⟩
  rw [← hw] at hrt ⊢
  have hwb : 9007199254740992 ≤ w := by
    refine Decidable.byContradiction fun h9 => ?_
    have h5 := hrt.2
    have h6 := Nat.mul_le_mul (show w + 1 ≤ 9007199254740992 by omega) (show w + 1 ≤ 9007199254740992 by omega)
    omega
  obtain ⟨t, ht⟩ : ∃ t : Nat, (t : Int) = (-1074 + (e : Int) - ((56 + j : Nat) : Int)) / 2 - 1 + 1074 := ⟨((-1074 + (e : Int) - ((56 + j : Nat) : Int)) / 2 - 1 + 1074).toNat, by omega⟩
  have hmag : 2 * w + (w * w != n).toNat = 2 * w + (if w * w = n then 0 else 1) := by
    by_cases c : w * w = n
    · rw [if_pos c, c]; simp
    · rw [if_neg c]; simp [c]
  rw [hmag, near_w _ _ _ t (by omega)]
  have hAn : A * 4 ^ 536 = n * 4 ^ t := by
    obtain ⟨x, hx⟩ : ∃ x, x = 536 := ⟨_, rfl⟩
    rw [hAe, hn, ← hx, pow4, pow4, Nat.mul_assoc, Nat.mul_assoc, ← Nat.pow_add, ← Nat.pow_add, ← Nat.pow_add, ← Nat.pow_add]
    congr 2
    omega
  rw [rt_H A n w t hAn hrt hwb]
theorem root_nat (A h N H u R T ex e L : Nat) (hL : L = 1074) (hA1 : 4503599627370496 * 2 ^ ex ≤ A) (hA2 : A < 9007199254740992 * 2 ^ ex) (x1 : 572 ≤ ex) (x2 : ex ≤ 1472)
    (hN : A * 2 ^ L = 4 * N) (hr : IsRt N h) (hH : H = 2 * h + u) (hu : (h * h = N ∧ u = 0) ∨ (h * h ≠ N ∧ u = 1)) (hT : ∃ E, T = 2 ^ E) (dR : T ∣ R) (n1 : 2 * H ≤ 2 * R + T) (n2 : 2 * R ≤ 2 * H + T) (hlt : H < 9007199254740992 * T)
    (hR1 : 4503599627370496 * 2 ^ e ≤ R) (hR2 : R < 9007199254740992 * 2 ^ e) (hlow : T = 1 ∨ 4503599627370496 * T ≤ H) (Hbig : 1298074214633706907132624082305024 ≤ H) :
    L ≤ e + e ∧ 50 + (e + e - L) ≤ ex ∧ e ≤ 1960 ∧ e + e ≤ 2944 ∧ 2 ∣ R ∧ A * 2 ^ L ≤ R * R + 9007199254740992 * 2 ^ (e + e) ∧ R * R ≤ A * 2 ^ L + 9007199254740992 * 2 ^ (e + e) := by
  have hT0 : 144115188075855872 < T := by omega
  have hTlow := hlow.resolve_left (by omega)
  have hRT : 4503599627370496 * T ≤ R := by
    obtain ⟨k, hk⟩ := dR
    rcases Nat.lt_or_ge k 4503599627370496 with c | c
    · exfalso
      have h5 : T * k ≤ T * 4503599627370495 := Nat.mul_le_mul_left T (by omega)
      omega
    · have h5 := Nat.mul_le_mul_left T c
      omega
  have hTe : T ≤ 2 ^ e := two_half hT ⟨e, rfl⟩ (by omega)
  obtain ⟨q, hq⟩ : ∃ q, T = 4 * q := by
    obtain ⟨E, rfl⟩ := hT
    have : 2 ≤ E := by
      refine Decidable.byContradiction fun h9 => ?_
      have : 2 ^ E ≤ 2 ^ 1 := Nat.pow_le_pow_right (by decide) (by omega)
      omega
    exact ⟨2 ^ (E - 2), by rw [show (4 : Nat) = 2 ^ 2 from rfl, ← Nat.pow_add]; congr 1; omega⟩
  have h2R : 2 ∣ R := Nat.dvd_trans ⟨2 * q, by omega⟩ dR
  obtain ⟨S, hS⟩ := h2R
  -- R and the next multiple
  have hRle : R + T ≤ 9007199254740992 * 2 ^ e := by
    obtain ⟨k, hk⟩ := dR
    have hTd : T ∣ 9007199254740992 * 2 ^ e := Nat.dvd_trans (two_dvd ⟨e, rfl⟩ hT hTe) (Nat.dvd_mul_left _ _)
    obtain ⟨k2, hk2⟩ := hTd
    rw [hk2, hk] at hR2
    have h5 : k < k2 := Nat.lt_of_mul_lt_mul_left hR2
    have h6 := Nat.mul_le_mul_left T (show k + 1 ≤ k2 from h5)
    rw [Nat.mul_add, Nat.mul_one] at h6
    omega
  have up : N ≤ (S + q) * (S + q) := by
    rcases hu with ⟨c, d⟩ | ⟨c, d⟩
    · rw [← c]; exact Nat.mul_le_mul (by omega) (by omega)
    · have h5 := Nat.mul_le_mul (show h + 1 ≤ S + q by omega) (show h + 1 ≤ S + q by omega)
      have := hr.2
      omega
  have dn : (S - q) * (S - q) ≤ N := by
    have h5 := Nat.mul_le_mul (show S - q ≤ h by omega) (show S - q ≤ h by omega)
    have := hr.1
    omega
  have hsq : q ≤ S := by omega
  obtain ⟨z, hz⟩ : ∃ z, S = q + z := ⟨S - q, by omega⟩
  have hTR : 4 * q * R + 4 * (q * q) ≤ 9007199254740992 * 2 ^ (e + e) := by
    have g1 : T * (R + T) ≤ 2 ^ e * (9007199254740992 * 2 ^ e) := Nat.mul_le_mul hTe hRle
    rw [Nat.mul_left_comm, ← Nat.pow_add, Nat.mul_add, hq] at g1
    have g2 : 4 * q * (4 * q) = 16 * (q * q) := by
      rw [Nat.mul_mul_mul_comm]
    omega
  have eS : R * R = 4 * (S * S) := by rw [hS, Nat.mul_mul_mul_comm]
  have eu : 4 * ((S + q) * (S + q)) = R * R + (4 * q * R + 4 * (q * q)) := by
    have g1 : (S + q) * (S + q) = S * S + 2 * (q * S) + q * q := by rw [Nat.add_mul, Nat.mul_add, Nat.mul_add, Nat.mul_comm S q]; omega
    have g2 : 4 * q * R = 8 * (q * S) := by rw [hS, show 4 * q * (2 * S) = 8 * (q * S) from by rw [Nat.mul_mul_mul_comm]]
    rw [eS, g1, g2]; omega
  have ed : R * R ≤ 4 * ((S - q) * (S - q)) + 4 * q * R := by
    have g2 : 4 * q * R = 8 * (q * S) := by rw [hS, show 4 * q * (2 * S) = 8 * (q * S) from by rw [Nat.mul_mul_mul_comm]]
    rw [eS, g2, hz, Nat.add_sub_cancel_left]
    have g3 : (q + z) * (q + z) = q * q + 2 * (q * z) + z * z := by rw [Nat.add_mul, Nat.mul_add, Nat.mul_add, Nat.mul_comm z q]; omega
    have g4 : q * (q + z) = q * q + q * z := Nat.mul_add _ _ _
    rw [g3, g4]; omega
  have c1 : A * 2 ^ L ≤ R * R + 9007199254740992 * 2 ^ (e + e) := by rw [hN]; omega
  have c2 : R * R ≤ A * 2 ^ L + 9007199254740992 * 2 ^ (e + e) := by rw [hN]; omega
  have hPe : 2 ^ (e + e) = 2 ^ e * 2 ^ e := Nat.pow_add _ _ _
  have r1 : 2 ^ (104 + (e + e)) ≤ R * R := by
    have g := Nat.mul_le_mul hR1 hR1
    rw [sq_rearr, ← hPe, ← pw52, ← Nat.pow_add, ← Nat.pow_add] at g
    exact g
  have r2 : R * R < 2 ^ (106 + (e + e)) := by
    have g := Nat.mul_lt_mul'' hR2 hR2
    rw [sq_rearr, ← hPe, ← pw53, ← Nat.pow_add, ← Nat.pow_add] at g
    exact g
  have a1 : 2 ^ (52 + ex + L) ≤ A * 2 ^ L := by
    have g := Nat.mul_le_mul_right (2 ^ L) hA1
    rw [← pw52, ← Nat.pow_add, ← Nat.pow_add] at g
    exact g
  have a2 : A * 2 ^ L < 2 ^ (53 + ex + L) := by
    have g := Nat.mul_lt_mul_of_pos_right hA2 (Nat.two_pow_pos L)
    rw [← pw53, ← Nat.pow_add, ← Nat.pow_add] at g
    exact g
  have hsm : 9007199254740992 * 2 ^ (e + e) ≤ R * R := by
    refine Nat.le_trans ?_ r1
    rw [← pw53, ← Nat.pow_add]; exact Nat.pow_le_pow_right (by decide) (by omega)
  have hsm2 : 2 * (9007199254740992 * 2 ^ (e + e)) ≤ R * R := by
    refine Nat.le_trans ?_ r1
    rw [← pw53, ← Nat.pow_add, Nat.mul_comm, ← Nat.pow_succ]; exact Nat.pow_le_pow_right (by decide) (by omega)
  have p1 : 104 + (e + e) < 54 + ex + L := by
    refine (Nat.pow_lt_pow_iff_right (a := 2) (by decide)).1 ?_
    have : 2 ^ (54 + ex + L) = 2 * 2 ^ (53 + ex + L) := by rw [Nat.mul_comm, ← Nat.pow_succ]; congr 1; omega
    omega
  have p2 : 52 + ex + L < 107 + (e + e) := by
    refine (Nat.pow_lt_pow_iff_right (a := 2) (by decide)).1 ?_
    have : 2 ^ (107 + (e + e)) = 2 * 2 ^ (106 + (e + e)) := by rw [Nat.mul_comm, ← Nat.pow_succ]; congr 1; omega
    omega
  exact ⟨by omega, by omega, by omega, by omega, ⟨S, hS⟩, c1, c2⟩
theorem sgn_rt (h N S u : Nat) (hr : IsRt N h) (hu : (h * h = N ∧ u = 0) ∨ (h * h ≠ N ∧ u = 1)) : (4 * N < 2 * S * (2 * S) ↔ 2 * h + u < 2 * S) ∧ (2 * S * (2 * S) < 4 * N ↔ 2 * S < 2 * h + u) := by
  have e : 2 * S * (2 * S) = 4 * (S * S) := Nat.mul_mul_mul_comm _ _ _ _
  rw [e]
  have h1 := hr.1
  have h2 := hr.2
  rcases Nat.lt_trichotomy h S with c | c | c
  · have h5 := Nat.mul_le_mul (show h + 1 ≤ S from c) (show h + 1 ≤ S from c)
    omega
  · rw [← c]; omega
  · have h5 := Nat.mul_le_mul (show S + 1 ≤ h from c) (show S + 1 ≤ h from c)
    rw [Nat.add_mul, Nat.mul_add] at h5
    omega
/-- the pattern that answers a root in the direction d -/
def rootW (d : Int) (A : Nat) : Nat := sumW d ((rtH A : Nat) : Int)
set_option maxHeartbeats 1000000 in
/-- all that a root's quick road needs -/
theorem root_all (m : Nat) (h1 : 2580562586483294208 ≤ m) (h2 : m ≤ 6633802251116740608) (L : Nat) (hL : L = 1074) :
    ∃ (V : Int) (r K e ex : Nat), V = ((rtH (Fq.vV Ieee.double m) : Nat) : Int) ∧ FloatKind.f64.format.sqrt (Fq.wD false m) = some (Fq.wD false r) ∧ r < 9218868437227405312 ∧ r = rgU 53 (rU 0 53 V.natAbs 1) ∧ false = (if V = 0 then false else decide (V < 0)) ∧ 53 ≤ K ∧ K ≤ 2096 ∧ V.natAbs < 2 ^ K
      ∧ (e ≤ 1960 ∧ 1074 ≤ e + e ∧ e + e ≤ 2944 ∧ e + e - L ≤ ex ∧ ex ≤ 1472) ∧ (((2 ^ e : Nat) : Int) ∣ Iv false r ∧ 4503599627370496 * 2 ^ e ≤ (Iv false r).natAbs ∧ (Iv false r).natAbs < 9007199254740992 * 2 ^ e) ∧ (Iv false m).natAbs < 9007199254740992 * 2 ^ ex
      ∧ ∀ V2 : Int, V2 * ((2 ^ L : Nat) : Int) = Iv false r * Iv false r → (((1125899906842624 * 2 ^ (e + e - L) : Nat) : Int) ∣ Iv false m ∧ ((2 ^ (e + e - L) : Nat) : Int) ∣ V2 ∧ (Iv false m - V2).natAbs ≤ 9007199254740992 * 2 ^ (e + e - L) ∧ 20282409603651670423947251286016 * 2 ^ (e + e - L) ≤ V2.natAbs ∧ V2.natAbs < 81129638414606681695789005144064 * 2 ^ (e + e - L))
        ∧ (Iv false m - V2 < 0 ↔ V - Iv false r < 0) ∧ (0 < Iv false m - V2 ↔ 0 < V - Iv false r) := by
  obtain ⟨ex, x1, x2, dx, hA1, hA2⟩ := mild_unit false m h1 h2
  obtain ⟨A, hA⟩ : ∃ A, A = Fq.vV Ieee.double m := ⟨_, rfl⟩
  have hxa : Iv false m = (A : Int) := by unfold Iv; rw [← hA]; rfl
  have hxn : (Iv false m).natAbs = A := by rw [hxa]; rfl
  rw [hxn] at hA1 hA2
  rw [← hA]
  obtain ⟨J, hJ⟩ : ∃ J : Nat, J = 536 := ⟨_, rfl⟩
  obtain ⟨N, hN0⟩ : ∃ N, N = A * 4 ^ J := ⟨_, rfl⟩
  obtain ⟨h, hh⟩ : ∃ h, h = rtN N := ⟨_, rfl⟩
  have hr : IsRt N h := by rw [hh]; exact rtN_is N
  obtain ⟨u, hu⟩ : ∃ u, u = if h * h = N then 0 else 1 := ⟨_, rfl⟩
  obtain ⟨H, hH⟩ : ∃ H, H = 2 * h + u := ⟨_, rfl⟩
  have hHr : rtH A = H := by unfold rtH; rw [hH, hu, hh, hN0, hJ]
  have hN : A * 2 ^ L = 4 * N := by
    rw [hN0, pow4, show (4 : Nat) = 2 ^ 2 from rfl, Nat.mul_left_comm (2 ^ 2), ← Nat.pow_add, ← Nat.pow_add]
    congr 2
    omega
  have huq : (h * h = N ∧ u = 0) ∨ (h * h ≠ N ∧ u = 1) := by
    by_cases c : h * h = N
    · left; exact ⟨c, by rw [hu, if_pos c]⟩
    · right; exact ⟨c, by rw [hu, if_neg c]⟩
  have hbig : 1298074214633706907132624082305024 ≤ H := by
    have g1 : 2 ^ (52 + ex + L) ≤ A * 2 ^ L := by
      have g := Nat.mul_le_mul_right (2 ^ L) hA1
      rw [← pw52, ← Nat.pow_add, ← Nat.pow_add] at g
      exact g
    have g2 : 2 ^ 224 ≤ 2 ^ (52 + ex + L) := Nat.pow_le_pow_right (by decide) (by omega)
    have g3 : 2 ^ 224 = 4 * (2 ^ 111 * 2 ^ 111) := by decide
    have g4 : 2 ^ 111 * 2 ^ 111 < (h + 1) * (h + 1) := by have := hr.2; omega
    have g5 := sq_lt_sq g4
    rw [show (2 : Nat) ^ 111 = 2596148429267413814265248164610048 from by decide] at g5
    omega
  obtain ⟨K, hK⟩ : ∃ K : Nat, K = 1980 := ⟨_, rfl⟩
  have hHK : H < 2 ^ K := by
    have g0 : A * 2 ^ L < 2 ^ (53 + ex + L) := by
      have g := Nat.mul_lt_mul_of_pos_right hA2 (Nat.two_pow_pos L)
      rw [← pw53, ← Nat.pow_add, ← Nat.pow_add] at g
      exact g
    have g1 : 2 ^ (53 + ex + L) ≤ 2 ^ (K - 2) * 2 ^ (K - 2) := by rw [← Nat.pow_add]; exact Nat.pow_le_pow_right (by decide) (by omega)
    have g2 : h < 2 ^ (K - 2) := sq_lt_sq (by have := hr.1; omega)
    have g3 : 2 ^ K = 4 * 2 ^ (K - 2) := by rw [show (4 : Nat) = 2 ^ 2 from rfl, ← Nat.pow_add]; congr 1; omega
    have hu1 : u ≤ 1 := by omega
    omega
  obtain ⟨V, hV⟩ : ∃ V : Int, V = (H : Int) := ⟨_, rfl⟩
  have hVa : V.natAbs = H := by rw [hV]; rfl
  have hV0 : V ≠ 0 := by omega
  have hVs : decide (V < 0) = false := decide_eq_false (by omega)
  obtain ⟨s, r, T, w0, r0, n0, e0, e0', l0⟩ := op_nr V false K (by omega) (by omega) (by rw [hVa]; exact hHK)
  have hs : s = false := by rw [e0', if_neg hV0, hVs]
  subst hs
  have hsq := root_w m h1 h2
  rw [← hA, hHr] at hsq
  rw [if_neg hV0, hVs, hVa] at w0
  rw [w0] at hsq
  obtain ⟨R, hR⟩ : ∃ R, R = Fq.vV Ieee.double r := ⟨_, rfl⟩
  have hIr : Iv false r = (R : Int) := by unfold Iv; rw [← hR]; rfl
  have hra : (Iv false r).natAbs = R := by rw [hIr]; rfl
  have hnr : 2 * H ≤ 2 * R + T ∧ 2 * R ≤ 2 * H + T := by
    have := n0.near
    rw [hV, hIr] at this
    omega
  have hlt := n0.lt
  rw [hVa] at hlt
  have hlow := n0.low
  rw [hVa] at hlow
  have dR : T ∣ R := by
    have := n0.dvd
    rw [← hra]
    exact Int.natCast_dvd_natCast.1 (Int.dvd_natAbs.2 this)
  have hnm : 4503599627370496 ≤ r := norm_of false r (by rw [hra]; omega)
  obtain ⟨e, de, hR1, hR2⟩ := norm_unit false r hnm
  have hR1' := hR1
  have hR2' := hR2
  rw [hra] at hR1' hR2'
  obtain ⟨p1, p2, p3, p4, p5, p6, p7⟩ := root_nat A h N H u R T ex e L hL hA1 hA2 x1 x2 hN hr hH huq n0.two dR hnr.1 hnr.2 hlt hR1' hR2' hlow hbig
  refine ⟨V, r, K, e, ex, by rw [hV, hHr], hsq, r0, e0, by rw [if_neg hV0, hVs], by omega, by omega, by rw [hVa]; exact hHK, ⟨p3, by omega, p4, by omega, x2⟩, ⟨de, hR1, hR2⟩, by rw [hxn]; exact hA2, ?_⟩
  intro V2 hV2
  obtain ⟨W, hW⟩ : ∃ W, W = 2 ^ (e + e - L) := ⟨_, rfl⟩
  obtain ⟨Z, hZ⟩ : ∃ Z : Nat, Z = 2 ^ L := ⟨_, rfl⟩
  have hZp : 0 < Z := by rw [hZ]; exact Nat.two_pow_pos L
  have hWp : 0 < W := by rw [hW]; exact Nat.two_pow_pos _
  have hWZ : 2 ^ e * 2 ^ e = W * Z := by rw [hW, hZ, ← Nat.pow_add, ← Nat.pow_add]; congr 1; omega
  have hWZ2 : 2 ^ (e + e) = W * Z := by rw [Nat.pow_add, hWZ]
  rw [← hW]
  rw [← hZ] at hV2 p6 p7 hN
  rw [hWZ2] at p6 p7
  have hWx : ((1125899906842624 * W : Nat) : Int) ∣ Iv false m := by
    refine Int.dvd_trans (Int.natCast_dvd_natCast.2 ?_) dx
    rw [hW, show (1125899906842624 : Nat) = 2 ^ 50 from by decide, ← Nat.pow_add]
    exact Nat.pow_dvd_pow 2 p2
  rw [hIr] at hV2
  have hVn : ∃ v : Nat, V2 = (v : Int) := by
    refine ⟨V2.natAbs, ?_⟩
    rcases Int.lt_or_le V2 0 with c | c
    · exfalso
      have := Int.mul_neg_of_neg_of_pos c (show (0 : Int) < (Z : Int) by omega)
      have h9 : (0 : Int) ≤ (R : Int) * (R : Int) := Int.mul_nonneg (by omega) (by omega)
      omega
    · omega
  obtain ⟨v, rfl⟩ := hVn
  have hab : v * Z = R * R := by
    have := hV2
    rw [← Int.natCast_mul, ← Int.natCast_mul] at this
    exact Int.ofNat.inj this
  have hWV : (W : Int) ∣ (v : Int) := by
    obtain ⟨k, hk⟩ := de
    refine ⟨k * k, ?_⟩
    have g : (v : Int) * (Z : Int) = (W : Int) * (k * k) * (Z : Int) := by
      rw [hV2, ← hIr, hk]
      have g2 : ((2 ^ e : Nat) : Int) * ((2 ^ e : Nat) : Int) = (W : Int) * (Z : Int) := by rw [← Int.natCast_mul, ← Int.natCast_mul, hWZ]
      rw [show ((2 ^ e : Nat) : Int) * k * (((2 ^ e : Nat) : Int) * k) = ((2 ^ e : Nat) : Int) * ((2 ^ e : Nat) : Int) * (k * k) from by ac_rfl, g2]
      ac_rfl
    exact Int.eq_of_mul_eq_mul_right (by omega) g
  rw [Int.natAbs_natCast]
  have v1 : 20282409603651670423947251286016 * W ≤ v := by
    have g := Nat.mul_le_mul hR1' hR1'
    rw [← hab, sq_rearr, show (4503599627370496 : Nat) * 4503599627370496 = 20282409603651670423947251286016 from by decide, hWZ, ← Nat.mul_assoc] at g
    exact Nat.le_of_mul_le_mul_right g hZp
  have v2 : v < 81129638414606681695789005144064 * W := by
    have g := Nat.mul_lt_mul'' hR2' hR2'
    rw [← hab, sq_rearr, show (9007199254740992 : Nat) * 9007199254740992 = 81129638414606681695789005144064 from by decide, hWZ, ← Nat.mul_assoc] at g
    exact Nat.lt_of_mul_lt_mul_right g
  rw [← hab] at p6 p7
  have s1 : A ≤ v + 9007199254740992 * W := by
    refine Nat.le_of_mul_le_mul_right ?_ hZp
    rw [Nat.add_mul, Nat.mul_assoc]; exact p6
  have s2 : v ≤ A + 9007199254740992 * W := by
    refine Nat.le_of_mul_le_mul_right ?_ hZp
    rw [Nat.add_mul, Nat.mul_assoc]; exact p7
  rw [hxa] at hWx ⊢
  refine ⟨⟨hWx, hWV, by omega, v1, v2⟩, ?_⟩
  obtain ⟨S, hS⟩ := p5
  obtain ⟨t1, t2⟩ := sgn_rt h N S u hr huq
  rw [← hS, ← hN, ← hab] at t1 t2
  have q1 : A * Z < v * Z ↔ A < v := ⟨fun h => Nat.lt_of_mul_lt_mul_right h, fun h => Nat.mul_lt_mul_of_pos_right h hZp⟩
  have q2 : v * Z < A * Z ↔ v < A := ⟨fun h => Nat.lt_of_mul_lt_mul_right h, fun h => Nat.mul_lt_mul_of_pos_right h hZp⟩
  rw [q1] at t1
  rw [q2] at t2
  rw [hIr, hV, hH, hS]
  omega
end Go.Proofs.YtkheefoabcibkaaGreatDoor
namespace Go.Proofs.YtkheefoabcibkaaGreatDoor
open Go.RowKit
set_option maxRecDepth 20000 in
set_option maxHeartbeats 1000000 in
theorem lackingR_ (n s n' : Bool) (m r m' e ey ex L : Nat) (hm : m < 9218868437227405312) (hr : r < 9218868437227405312) (hm' : m' < 9218868437227405312) (he : e ≤ 1960) (hey : ey ≤ 1960) (s1 : 1074 ≤ e + ey) (s2 : e + ey ≤ 2944) (hL : L = 1074) (p2 : e + ey - L ≤ ex) (x2 : ex ≤ 1472) (hxx : (Iv n m).natAbs < 9007199254740992 * 2 ^ ex)
    (hU : ((2 ^ e : Nat) : Int) ∣ Iv s r ∧ 4503599627370496 * 2 ^ e ≤ (Iv s r).natAbs ∧ (Iv s r).natAbs < 9007199254740992 * 2 ^ e) (hU' : ((2 ^ ey : Nat) : Int) ∣ Iv n' m' ∧ 4503599627370496 * 2 ^ ey ≤ (Iv n' m').natAbs ∧ (Iv n' m').natAbs < 9007199254740992 * 2 ^ ey)
    (hfit : ∀ V2 : Int, V2 * ((2 ^ L : Nat) : Int) = Iv s r * Iv n' m' → (((1125899906842624 * 2 ^ (e + ey - L) : Nat) : Int) ∣ Iv n m ∧ ((2 ^ (e + ey - L) : Nat) : Int) ∣ V2 ∧ (Iv n m - V2).natAbs ≤ 9007199254740992 * 2 ^ (e + ey - L) ∧ 20282409603651670423947251286016 * 2 ^ (e + ey - L) ≤ V2.natAbs ∧ V2.natAbs < 81129638414606681695789005144064 * 2 ^ (e + ey - L))) :
    ∃ (V2 : Int) (f : Bool) (fr : Nat), V2 * ((2 ^ L : Nat) : Int) = Iv s r * Iv n' m' ∧ fr < 9218868437227405312 ∧ Iv f fr = Iv n m - V2 ∧ ∀ w : World, Calls Tryz.prog 85 #[.float .f64 (Fq.wD n m), .float .f64 (Fq.wD s r), .float .f64 (Fq.wD n' m')] w fun e w' => e = .returned (.float .f64 (Fq.wD f fr)) ∧ w' = w := by
  obtain ⟨V2, p, o, pr, ro, K, zV, h3, r0, r8, q0, q1, hex, K1, K2, kV⟩ := twoProduct_ s n' r m' e ey hr hm' he hey s1 s2 hU.1 hU.2.1 hU.2.2 hU'.1 hU'.2.1 hU'.2.2 L hL
  obtain ⟨d1, d2, d3, d4, d5⟩ := hfit V2 zV
  obtain ⟨W, hW⟩ : ∃ W, W = 2 ^ (e + ey - L) := ⟨_, rfl⟩
  rw [← hW] at d1 d2 d3 d4 d5
  obtain ⟨K5, hK5⟩ : ∃ K5 : Nat, K5 = 1600 := ⟨_, rfl⟩
  have kx : (Iv n m).natAbs < 2 ^ K5 := by
    refine Nat.lt_of_lt_of_le hxx ?_
    rw [← pw53, ← Nat.pow_add]
    exact Nat.pow_le_pow_right (by decide) (by omega)
  have kV5 : V2.natAbs < 2 ^ K5 := by
    refine Nat.lt_of_lt_of_le d5 ?_
    rw [show (81129638414606681695789005144064 : Nat) = 2 ^ 106 from by decide, hW, ← Nat.pow_add]
    exact Nat.pow_le_pow_right (by decide) (by omega)
  obtain ⟨s9, r9, T9, _, _, n9, e9, e9', l0⟩ := op_nr V2 (s ^^ n') K5 (by omega) (by omega) kV5
  rw [show s9 = p from e9'.trans q1.symm, show r9 = pr from e9.trans q0.symm] at n9 l0
  obtain ⟨t, tr, T1, w1, t1, n1, _, _, l1⟩ := op_nr (Iv n m - Iv p pr) (n && !p) (K5 + 2) (by omega) (by omega) (lt_sub9 kx l0 (by omega)).2
  have lo : (Iv o ro).natAbs < 2 ^ (K5 + 2) := by rw [hex]; exact (lt_sub9 kV5 l0 (by omega)).2
  obtain ⟨f, fr, T2, w2, t2, n2, _, _, l2⟩ := op_nr (Iv t tr - Iv o ro) (t && !o) (K5 + 4) (by omega) (by omega) (lt_add9 l1 lo (by omega)).2
  have hfin := lack_exact2 ⟨_, hW⟩ d1 d2 d3 d4 d5 n9 hex n1 n2
  have g1 := sub_w n p m pr hm r0 _ rfl
  have g2 := sub_w t o tr ro t1 r8 _ rfl
  rw [w1] at g1
  rw [w2] at g2
  refine ⟨V2, f, fr, zV, t2, hfin, fun w => ?_⟩
  clear zV r0 r8 q0 q1 hex K1 K2 kV d1 d2 d3 d4 d5 hW hK5 kx kV5 n9 e9 e9' l0 w1 t1 n1 l1 lo w2 t2 n2 l2 hfin hU hU' hfit hm hr hm' he hey s1 s2 hL p2 x2 hxx
  obtain ⟨X, hX⟩ : ∃ X, X = Fq.wD n m := ⟨_, rfl⟩
  obtain ⟨Y, hY⟩ : ∃ Y, Y = Fq.wD s r := ⟨_, rfl⟩
  obtain ⟨Z, hZ⟩ : ∃ Z, Z = Fq.wD n' m' := ⟨_, rfl⟩
  obtain ⟨P, hP⟩ : ∃ P, P = Fq.wD p pr := ⟨_, rfl⟩
  obtain ⟨O, hO⟩ : ∃ O, O = Fq.wD o ro := ⟨_, rfl⟩
  obtain ⟨D, hD⟩ : ∃ D, D = Fq.wD t tr := ⟨_, rfl⟩
  obtain ⟨G, hG⟩ : ∃ G, G = Fq.wD f fr := ⟨_, rfl⟩
  rw [← hX, ← hP, ← hD] at g1
  rw [← hD, ← hO, ← hG] at g2
  rw [← hY, ← hZ, ← hP, ← hO] at h3
  rw [← hX, ← hY, ← hZ, ← hG]
  have f1 : ∀ w : World, (binOp .sub 22 (.float .f64 X) (.float .f64 P)).run Tryz.prog w = .ok (.float .f64 D) w := fun w => run_float_arith w .sub 22 .f64 X P D g1
  have f2 : ∀ w : World, (binOp .sub 22 (.float .f64 D) (.float .f64 O)).run Tryz.prog w = .ok (.float .f64 G) w := fun w => run_float_arith w .sub 22 .f64 D O G g2
  clear hX hY hZ hP hO hD hG g1 g2
  go_enter Tryz.func85, Tryz.ntmps85
  go_wp2_with fail
  refine (h3 _).mono ?_; rintro e w' ⟨rfl, hw'⟩; obtain rfl := hw'.symm; clear hw' h3
  go_wp2
  exact bodyPost_ret (v := .float .f64 G) (by simp [results, Tryz.results85, go_sem]) rfl ⟨rfl, rfl⟩
theorem sqrt_run (X : Nat) (w : World) : (callFunc 86 #[.float .f64 X]).run Tryz.prog w = ((match FloatKind.f64.format.sqrt X with | some r => (pure (.float .f64 r) : Sem Value) | none => (do pure (.float .f64 (← choose (.nanBits .f64 X X))))) >>= fun v => (pure (.value v) : Sem _)).run Tryz.prog w := by kernel_rfl
theorem sqrt_ok (X Z : Nat) (h : FloatKind.f64.format.sqrt X = some Z) (w : World) : (callFunc 86 #[.float .f64 X]).run Tryz.prog w = .ok (.value (.float .f64 Z)) w := by
  rw [sqrt_run, h]
  rfl
set_option maxRecDepth 20000 in
set_option maxHeartbeats 400000 in
theorem msqrt_ (X Z : Nat) (h : FloatKind.f64.format.sqrt X = some Z) (w : World) : Calls Tryz.prog 64 #[.float .f64 X] w fun e w' => e = .returned (.float .f64 Z) ∧ w' = w := by
  have h1 := fun w => sqrt_ok X Z h w
  clear h
  go_enter Tryz.func64, Tryz.ntmps64
  go_wp2
  exact bodyPost_ret (v := .float .f64 Z) (by simp [results, Tryz.results64, go_sem]) rfl ⟨rfl, rfl⟩
set_option maxRecDepth 20000 in
set_option maxHeartbeats 1000000 in
theorem twoRoot_ (m : Nat) (c1 : 2580562586483294208 ≤ m ∧ m ≤ 6633802251116740608) :
    ∃ (V : Int) (o : Bool) (r ro K : Nat), V = ((rtH (Fq.vV Ieee.double m) : Nat) : Int) ∧ (∀ w : World, Calls Tryz.prog 63 #[.float .f64 (Fq.wD false m)] w fun e w' => e = .returned (.tuple #[.float .f64 (Fq.wD false r), .float .f64 (Fq.wD o ro)]) ∧ w' = w) ∧ r < 9218868437227405312 ∧ ro < 9218868437227405312 ∧ r = rgU 53 (rU 0 53 V.natAbs 1) ∧ false = (if V = 0 then false else decide (V < 0)) ∧ (Fq.plz o ro < 0 ↔ V - Iv false r < 0) ∧ (0 < Fq.plz o ro ↔ 0 < V - Iv false r) ∧ 53 ≤ K ∧ K ≤ 2096 ∧ V.natAbs < 2 ^ K := by
  obtain ⟨L, hL⟩ : ∃ L : Nat, L = 1074 := ⟨_, rfl⟩
  obtain ⟨V, r, K, e, ex, hV, hsq, r0, e0, e0', K1, K2, kV, ⟨p1, p3, p4, p5, p6⟩, hu1, hxx, hfit⟩ := root_all m c1.1 c1.2 L hL
  obtain ⟨V2, f, fr, zV, f0, hf, hl⟩ := lackingR_ false false false m r r e e ex L (by omega) r0 r0 p1 p1 p3 p4 hL p5 p6 hxx hu1 hu1 (fun V2 h => (hfit V2 h).1)
  obtain ⟨g1, g2⟩ := (hfit V2 zV).2
  rw [← hf] at g1 g2
  obtain ⟨i1, i2⟩ := iv_plz f fr
  refine ⟨V, f, r, fr, K, hV, fun w => ?_, r0, f0, e0, e0', i1.symm.trans g1, i2.symm.trans g2, K1, K2, kV⟩
  have hs := msqrt_ _ _ hsq w
  have hl1 := hl w
  obtain ⟨X, hX⟩ : ∃ X, X = Fq.wD false m := ⟨_, rfl⟩
  obtain ⟨S, hS⟩ : ∃ S, S = Fq.wD false r := ⟨_, rfl⟩
  obtain ⟨G, hG⟩ : ∃ G, G = Fq.wD f fr := ⟨_, rfl⟩
  rw [← hX, ← hS] at hs
  rw [← hX, ← hS, ← hG] at hl1
  rw [← hX, ← hS, ← hG]
  clear hX hS hG hf zV hfit hxx hu1 hV kV e0 e0' g1 g2 i1 i2 c1 hsq hl
  go_enter Tryz.func63, Tryz.ntmps63
  go_wp2_with fail
  refine hs.mono ?_; rintro e w' ⟨rfl, hw'⟩; obtain rfl := hw'.symm; clear hw' hs
  go_wp2_with fail
  refine hl1.mono ?_; rintro e w' ⟨rfl, hw'⟩; obtain rfl := hw'.symm; clear hw' hl1
  go_wp2
  exact bodyPost_ret (v := .tuple #[.float .f64 S, .float .f64 G]) (by simp [results, Tryz.results63, go_sem]) rfl ⟨rfl, rfl⟩
end Go.Proofs.YtkheefoabcibkaaGreatDoor
namespace Go.Proofs.YtkheefoabcibkaaGreatDoor
open Go.RowKit
set_option maxRecDepth 20000 in
set_option maxHeartbeats 400000 in
theorem residue_ (x : Int) (h1 : -4096 ≤ x) (h2 : x ≤ 4096) (w : World) : Calls Tryz.prog 116 #[.int .i64 x, .int .i64 2] w fun e w' => e = .returned (.int .i64 (x % 2)) ∧ w' = w := by
  have ht : x.tmod 2 = x % 2 ∨ x.tmod 2 = x % 2 - 2 := by
    rcases Int.lt_or_le x 0 with c | c
    · have e : x.tmod 2 = -((-x) % 2) := by
        have e1 := Int.neg_tmod (-x) 2
        rw [Int.neg_neg] at e1
        rw [e1, Int.tmod_eq_emod_of_nonneg (show 0 ≤ -x by omega)]
      omega
    · left; exact Int.tmod_eq_emod_of_nonneg c
  obtain ⟨y, hy⟩ : ∃ y, y = x.tmod 2 := ⟨_, rfl⟩
  have hy2 : x.tmod 2 = y := hy.symm
  rw [← hy] at ht
  have q1 : wrap64 y = y := w64x _ (by omega) (by omega)
  have q2 : wrap64 (y + 2) = y + 2 := w64x _ (by omega) (by omega)
  have q3 : (y + 2).tmod 2 = x % 2 := by rw [Int.tmod_eq_emod_of_nonneg (by omega)]; omega
  have q4 : (y + 2) % 2 = x % 2 := by omega
  have q5 : wrap64 (x % 2) = x % 2 := w64x _ (by omega) (by omega)
  have q6 : 0 ≤ y + 2 := by omega
  clear hy ht
  go_enter Tryz.func116, Tryz.ntmps116
  go_wp2
  exact bodyPost_ret (v := .int .i64 (x % 2)) (by simp [results, Tryz.results116, go_sem]) rfl ⟨rfl, rfl⟩
set_option maxRecDepth 20000 in
set_option maxHeartbeats 1000000 in
theorem stretched_ (s : Bool) (a : Nat) (ea : Int) (va : Value) (w : World) (ha : Ls w va (dig a)) (la : a < 9007199254740992) (za : a ≠ 0) (ea1 : -1074 ≤ ea) (ea2 : ea ≤ 2048) (u0 up ex : Int) (hu0 : u0 = 107 - (blen a : Int)) (hup : up = u0 + (ea - u0) % 2) (hex : ex = (ea - up) / 2) :
    Calls Tryz.prog 87 #[.agg #[.bool s, va, .int .i64 ea], .int .i64 2] w fun e w' => ∃ v, e = .returned (.tuple #[v, .int .i64 ex]) ∧ Ls w' v (dig (a * 2 ^ up.toNat)) ∧ Kp w w' := by
  obtain ⟨pa, ca, rfl, ha, hca⟩ := ha
  obtain ⟨La, hLa⟩ : ∃ La, La = (dig a).length := ⟨_, rfl⟩
  rw [← hLa]
  have ba : blen a ≤ 53 := by rw [blen_le_iff, show (2 : Nat) ^ 53 = 9007199254740992 from by decide]; exact la
  have lsa : len32 a ≤ 2 := dlen a 2 (by omega)
  obtain ⟨B, hB⟩ : ∃ B, B = w.heap.size := ⟨_, rfl⟩
  obtain ⟨w0, hw0⟩ : ∃ w0, w0 = w.alloc (.cells #[.bool s, .slice pa La ca, .int .i64 ea] 65) := ⟨_, rfl⟩
  have hk9 : Kp w w0 := by rw [hw0]; exact (Kp.refl w).alloc _
  have x1 : w0.cell? ⟨B, 1, none⟩ = some (.slice pa La ca) := by rw [hw0, hB]; simp [go_sem]
  have x2 : w0.cell? ⟨B, 2, none⟩ = some (.int .i64 ea) := by rw [hw0, hB]; simp [go_sem]
  have h1 := nlen_ pa ca (dig a) w0 (ha.grown hk9) (Wd_dig a) (by change len32 a ≤ _; omega) hca
  rw [val_dig, ← hLa] at h1
  have h2 := residue_ (ea - u0) (by omega) (by omega) w0
  have h3 := nshl_ pa ca (dig a) w0 up (ha.grown hk9) (Wd_dig a) (by change len32 a ≤ _; omega) hca
  rw [val_dig, ← hLa] at h3
  have hs : shlN a up = (dig (a * 2 ^ up.toNat), 0) := by
    unfold shlN
    rw [if_neg (by omega), if_neg (by omega), if_neg za, if_neg (by omega)]
  rw [hs] at h3
  obtain ⟨bl, hbl⟩ : ∃ bl, bl = blen a := ⟨_, rfl⟩
  rw [← hbl] at h1 hu0 ba
  have w1 : wrap64 (107 - (bl : Int)) = u0 := by rw [← hu0]; exact w64x _ (by omega) (by omega)
  have w2 : wrap64 (ea - u0) = ea - u0 := w64x _ (by omega) (by omega)
  have w3 : wrap64 (u0 + (ea - u0) % 2) = up := by rw [← hup]; exact w64x _ (by omega) (by omega)
  have w4 : wrap64 (ea - up) = ea - up := w64x _ (by omega) (by omega)
  have w5 : IntKind.i64.wrap (ea - up) = ea - up := by simp [IntKind.wrap, IntKind.bits, IntKind.signed]; omega
  have e2 : ea - up = 2 * ex := by omega
  have t1 : (ea - up).tdiv 2 = ex := by rw [e2]; exact Int.mul_tdiv_cancel_left ex (by decide)
  clear e2
  have w6 : wrap64 ex = ex := w64x _ (by omega) (by omega)
  have w7 : IntKind.i64.wrap ex = ex := by simp [IntKind.wrap, IntKind.bits, IntKind.signed]; omega
  have HW : Hid (w0 = w.alloc (.cells #[.bool s, .slice pa La ca, .int .i64 ea] 65) ∧ B = w.heap.size ∧ Kp w w0) := ⟨hw0, hB, hk9⟩
  have HU : Hid (0 ≤ bl ∧ u0 = 107 - (bl : Int) ∧ up = u0 + (ea - u0) % 2 ∧ ex = (ea - up) / 2) := ⟨Nat.zero_le _, hu0, hup, hex⟩
  clear hw0 hB hk9 ha hca hLa la lsa ba hbl hs za hu0 hup hex
  go_enter Tryz.func87, Tryz.ntmps87
  go_wp2_with fail
  rw [← HW.out.2.1]
  try rw [← HW.out.1]
  try go_wp2_with fail
  refine h1.mono ?_; rintro e w' ⟨rfl, hw'⟩; obtain rfl := hw'.symm; clear hw' h1
  go_wp2_with fail
  refine h2.mono ?_; rintro e w' ⟨rfl, hw'⟩; obtain rfl := hw'.symm; clear hw' h2
  go_wp2_with fail
  refine h3.mono ?_; rintro e wz ⟨v, rfl, ho, k1⟩
  have hls := ho.ls
  obtain ⟨pv, cv, rfl, hav, hcv⟩ := ho.arr
  replace x2 := kkeep k1 x2
  have kk := HW.out.2.2.trans k1
  obtain ⟨LV, hLV⟩ : ∃ LV, LV = (dig (a * 2 ^ up.toNat)).length := ⟨_, rfl⟩
  rw [← hLV] at hls ⊢
  have HL : Hid (Ls wz (.slice pv LV cv) (dig (a * 2 ^ up.toNat)) ∧ Kp w wz) := ⟨hls, kk⟩
  clear h3 ho hav hcv hLV k1 kk hls x1
  go_upto_region 4 with fail
  go_region_held3 (fun w' => w'.cell? ⟨B, 2, none⟩ = some (.int .i64 ea)) (exact x2) (fail)
  go_wp2
  exact bodyPost_ret (v := .tuple #[.slice pv LV cv, .int .i64 ex]) (by simp [results, Tryz.results87, go_sem]) rfl ⟨_, rfl, HL.out.1.kp (Kp.refl _).drew, HL.out.2.drew⟩
end Go.Proofs.YtkheefoabcibkaaGreatDoor
namespace Go.Proofs.YtkheefoabcibkaaGreatDoor
open Go.RowKit
set_option maxRecDepth 20000 in
set_option maxHeartbeats 1000000 in
theorem rootOfWord_ (v : Nat) (hv : v < 18446744073709551616) (w : World) :
    Calls Tryz.prog 138 #[.int .u64 (v : Int)] w fun e w' => ∃ r, e = .returned r ∧ Two w' w.heap.size (dig (rtN v)) (dig (v - rtN v * rtN v)) r ∧ Kp w w' := by
  have HV : Hid (v < 18446744073709551616) := hv
  clear hv
  go_enter Tryz.func138, Tryz.ntmps138
  go_wp2
  go_loop [4, 7] (fun rr ii => ∃ k r : Nat, rr = .int .u64 (r : Int) ∧ ii = .int .i64 (k : Int) ∧ k ≤ 32 ∧ RI v r (32 - k)) (fun _ i => 32 - (intOf i).toNat)
  case atStart => exact ⟨0, 0, rfl, rfl, by omega, RI.start v HV.out⟩
  case round =>
    obtain ⟨k, r, rfl, rfl, hk, hI⟩ := hrel
    by_cases ck : k < 32
    · obtain ⟨e, he⟩ : ∃ e, e = 31 - k := ⟨_, rfl⟩
      rw [show 32 - k = e + 1 from by omega] at hI
      obtain ⟨h1, h2, h3, h4, h5⟩ := hI.tries
      obtain ⟨P, hP⟩ : ∃ P, P = 2 ^ e := ⟨_, rfl⟩
      obtain ⟨t, ht⟩ : ∃ t, t = r + 2 ^ e := ⟨_, rfl⟩
      have f1 : (31 : Int) - (k : Int) = (e : Int) := by omega
      have f1b : IntKind.i64.wrap (31 - (k : Int)) = (e : Int) := by rw [IntKind.wrap_i64]; omega
      have hPc : ((2 : Int) ^ e) = (P : Int) := by rw [hP]; norm_cast
      have f2 : IntKind.u64.wrap ((2 : Int) ^ e) = (P : Int) := by rw [hPc, IntKind.wrap_u64]; omega
      have f2b : IntKind.u64.wrap (1 * (2 : Int) ^ e) = (P : Int) := by rw [Int.one_mul]; exact f2
      have f3 : bits BinOp.or IntKind.u64 (r : Int) (P : Int) = (t : Int) := by
        rw [bits_or_u64_nat r P (by omega) (by omega), hP, h1, ← ht]
      obtain ⟨S, hS⟩ : ∃ S, S = t * t := ⟨_, rfl⟩
      have f4 : IntKind.u64.wrap ((t : Int) * (t : Int)) = (S : Int) := by
        have e9 : (t : Int) * (t : Int) = (S : Int) := by rw [hS]; exact (Int.natCast_mul t t).symm
        rw [← ht, ← hS] at h3
        rw [e9, IntKind.wrap_u64]; omega
      have i1 : (k : Int) < 32 := by omega
      by_cases ct : S ≤ v
      · have hI2 := hI.up (by rw [← ht, ← hS]; exact ct)
        rw [← ht, show e = 32 - (k + 1) from by omega] at hI2
        have t1 : (S : Int) ≤ (v : Int) := by omega
        have HI : Hid (RI v t (32 - (k + 1)) ∧ k + 1 ≤ 32) := ⟨hI2, by omega⟩
        clear HV hk hI ck he h1 h2 h3 h4 h5 hP ht hS ct hI2 hPc
        go_wp2
        exact ⟨⟨k + 1, t, rfl, by go_num, HI.out.2, HI.out.1⟩, by simp [intOf]; omega⟩
      · have hI2 := hI.stay (by rw [← ht, ← hS]; exact ct)
        rw [show e = 32 - (k + 1) from by omega] at hI2
        have t1 : ¬ (S : Int) ≤ (v : Int) := by omega
        have HI : Hid (RI v r (32 - (k + 1)) ∧ k + 1 ≤ 32) := ⟨hI2, by omega⟩
        clear HV hk hI ck he h1 h2 h3 h4 h5 hP ht hS ct hI2 hPc
        go_wp2
        exact ⟨⟨k + 1, r, rfl, by go_num, HI.out.2, HI.out.1⟩, by simp [intOf]; omega⟩
    · have hk32 : k = 32 := by omega
      subst hk32
      obtain ⟨hd1, hd2⟩ := hI.done
      have hr := hd1.eq
      obtain ⟨S, hS⟩ : ∃ S, S = r * r := ⟨_, rfl⟩
      obtain ⟨D, hD⟩ : ∃ D, D = v - r * r := ⟨_, rfl⟩
      have hSv : S ≤ v := by rw [hS]; exact hd1.1
      have hv := HV.out
      have f4 : IntKind.u64.wrap ((r : Int) * (r : Int)) = (S : Int) := by
        have e9 : (r : Int) * (r : Int) = (S : Int) := by rw [hS]; exact (Int.natCast_mul r r).symm
        rw [e9, IntKind.wrap_u64]; omega
      have f5 : IntKind.u64.wrap ((v : Int) - (S : Int)) = (D : Int) := by rw [IntKind.wrap_u64]; omega
      have hs1 := nsmall_ r (by omega)
      have hs2 := nsmall_ D (by omega)
      have HR : Hid (r = rtN v ∧ D = v - rtN v * rtN v) := ⟨hr, by rw [← hr]; exact hD⟩
      clear HV hk hI ck hd1 hd2 hr hS hD hSv hv
      go_wp2_with fail
      refine (hs1 _).mono ?_
      rintro e w1 ⟨v1, rfl, hO1, hk1⟩
      clear hs1
      go_wp2_with fail
      refine (hs2 _).mono ?_
      rintro e w2 ⟨v2, rfl, hO2, hk2⟩
      obtain ⟨p1, c1, rfl, _⟩ := hO1.len
      obtain ⟨p2, c2, rfl, _⟩ := hO2.len
      have hTwo : Two w2 w.heap.size (dig r) (dig D) (.tuple #[.slice p1 (dig r).length c1, .slice p2 (dig D).length c2]) := by
        refine ⟨p1, c1, p2, c2, rfl, hO1.kp hk2, hO2.mono hk1.size, fun g e e2 => ?_⟩
        subst e e2
        have h1 := hO1.above.2
        have h2 := hO2.above.1
        omega
      have HZ : Hid (Two w2 w.heap.size (dig (rtN v)) (dig (v - rtN v * rtN v)) (.tuple #[.slice p1 (dig r).length c1, .slice p2 (dig D).length c2]) ∧ Kp w w2) := ⟨by rw [← HR.out.2, ← HR.out.1]; exact hTwo, hk1.trans hk2⟩
      obtain ⟨K1, hK1⟩ : ∃ K1, K1 = (dig r).length := ⟨_, rfl⟩
      obtain ⟨K2, hK2⟩ : ∃ K2, K2 = (dig D).length := ⟨_, rfl⟩
      rw [← hK1, ← hK2] at HZ ⊢
      clear hs2 hO1 hO2 hk1 hk2 hTwo hK1 hK2
      go_wp2
      exact bodyPost_ret (v := .tuple #[.slice p1 K1 c1, .slice p2 K2 c2]) (by simp [results, Tryz.results138, go_sem]) rfl ⟨_, rfl, HZ.out.1, HZ.out.2⟩
end Go.Proofs.YtkheefoabcibkaaGreatDoor
namespace Go.Proofs.YtkheefoabcibkaaGreatDoor
open Go.RowKit
set_option maxRecDepth 20000 in
set_option maxHeartbeats 1000000 in
theorem root2_ (p : Option Addr) (c : Nat) (xs : List Int) (w : World) (hx : Arr w p xs) (hwx : Wd xs) (l2 : xs.length ≤ 2) :
    Calls Tryz.prog 117 #[.slice p xs.length c] w fun e w' => ∃ v, e = .returned v ∧ Two w' w.heap.size (dig (rtN (val xs))) (dig (val xs - rtN (val xs) * rtN (val xs))) v ∧ Kp w w' := by
  have hlo := lowest_ p c xs w hx hwx l2
  have hv : val xs < 18446744073709551616 := by
    have h1 := val_lt xs hwx
    have h2 : 4294967296 ^ xs.length ≤ 4294967296 ^ 2 := Nat.pow_le_pow_right (by omega) l2
    have h3 : (4294967296 : Nat) ^ 2 = 18446744073709551616 := by decide
    omega
  have hrw := rootOfWord_ (val xs) hv w
  obtain ⟨N, hN⟩ : ∃ N, N = xs.length := ⟨_, rfl⟩
  obtain ⟨V, hV⟩ : ∃ V, V = val xs := ⟨_, rfl⟩
  rw [← hN, ← hV] at hlo
  rw [← hV] at hrw
  rw [← hN, ← hV]
  have t1 : (N : Int) ≤ 2 := by omega
  clear hx hwx l2 hv hN hV
  go_enter Tryz.func117, Tryz.ntmps117
  go_wp2_with fail
  refine hlo.mono ?_; rintro e w' ⟨rfl, hw'⟩; obtain rfl := hw'.symm; clear hlo
  go_wp2_with fail
  refine hrw.mono ?_
  rintro e w2 ⟨v, rfl, ⟨p1, c1, p2, c2, rfl, o1, o2, hne⟩, hk2⟩
  obtain ⟨L1, hL1⟩ : ∃ L1, L1 = (dig (rtN V)).length := ⟨_, rfl⟩
  obtain ⟨L2, hL2⟩ : ∃ L2, L2 = (dig (V - rtN V * rtN V)).length := ⟨_, rfl⟩
  have HZ : Hid (Two w2 w.heap.size (dig (rtN V)) (dig (V - rtN V * rtN V)) (.tuple #[.slice p1 L1 c1, .slice p2 L2 c2]) ∧ Kp w w2) := ⟨⟨p1, c1, p2, c2, by rw [hL1, hL2], o1, o2, hne⟩, hk2⟩
  rw [← hL1, ← hL2]
  clear hrw o1 o2 hne hk2 hL1 hL2 t1
  go_wp2
  exact bodyPost_ret (v := .tuple #[.slice p1 L1 c1, .slice p2 L2 c2]) (by simp [results, Tryz.results117, go_sem]) rfl ⟨_, rfl, HZ.out.1, HZ.out.2⟩
set_option maxRecDepth 20000 in
set_option maxHeartbeats 1000000 in
theorem nroot_of (p : Option Addr) (c : Nat) (xs : List Int) (w : World) (hx : Arr w p xs) (hwx : Wd xs) (lx : xs.length ≤ 1048576) (hc : xs.length ≤ c)
    (hroot : ¬ 16384 < tl xs → Calls Tryz.prog 117 #[.slice p (tl xs) c] w fun e w' => ∃ v, e = .returned v ∧ Two w' w.heap.size (dig (rtN (val xs))) (dig (val xs - rtN (val xs) * rtN (val xs))) v ∧ Kp w w') :
    Calls Tryz.prog 88 #[.slice p xs.length c] w fun e w' => ∃ v, e = .returned (.tuple #[v, .bool (rootN (val xs)).2.1, .int .i64 (rootN (val xs)).2.2]) ∧ Own w' w.heap.size v (rootN (val xs)).1 ∧ Kp w w' := by
  have h1 := trim_ p c xs w hx (by omega) hc
  have l1 := tooLong_ p (tl xs) c w
  have hlx : tl xs = len32 (val xs) := tl_len xs hwx
  obtain ⟨N, hN⟩ : ∃ N, N = xs.length := ⟨_, rfl⟩
  obtain ⟨S, hS⟩ : ∃ S, S = tl xs := ⟨_, rfl⟩
  obtain ⟨V, hV⟩ : ∃ V, V = val xs := ⟨_, rfl⟩
  rw [← hN, ← hS] at h1
  rw [← hS] at l1 hlx hroot
  rw [← hV] at hlx hroot
  rw [← hN, ← hV]
  clear hx hwx lx hc hN hS hV
  unfold rootN
  by_cases cl : 16384 < len32 V
  · rw [← hlx] at cl ⊢
    simp only [if_pos cl]
    rw [decide_eq_true cl] at l1
    clear hroot hlx cl
    go_enter Tryz.func88, Tryz.ntmps88
    go_wp2_with fail
    refine h1.mono ?_; rintro e w' ⟨rfl, hw'⟩; obtain rfl := hw'.symm; clear h1
    go_wp2_with fail
    refine l1.mono ?_; rintro e w' ⟨rfl, hw'⟩; obtain rfl := hw'.symm; clear l1
    go_wp2
    exact bodyPost_ret (v := .tuple #[.slice none 0 0, .bool false, .int .i64 2]) (by simp [results, Tryz.results88, go_sem]) rfl ⟨_, rfl, Own.nil _ _, Kp.refl _⟩
  · rw [← hlx] at cl ⊢
    simp only [if_neg cl]
    have hr := hroot cl
    rw [decide_eq_false cl] at l1
    obtain ⟨D, hD⟩ : ∃ D, D = V - rtN V * rtN V := ⟨_, rfl⟩
    obtain ⟨R, hR⟩ : ∃ R, R = rtN V := ⟨_, rfl⟩
    have hle := (rtN_is V).1
    rw [← hD, ← hR] at hr
    rw [← hR] at hle hD ⊢
    have hb : decide (V = R * R) = decide (D = 0) := by
      by_cases e : D = 0
      · rw [decide_eq_true e, decide_eq_true (by omega)]
      · rw [decide_eq_false e, decide_eq_false (by omega)]
    rw [hb]
    clear hroot hlx cl hD hR hle hb
    go_enter Tryz.func88, Tryz.ntmps88
    go_wp2_with fail
    refine h1.mono ?_; rintro e w' ⟨rfl, hw'⟩; obtain rfl := hw'.symm; clear h1
    go_wp2_with fail
    refine l1.mono ?_; rintro e w' ⟨rfl, hw'⟩; obtain rfl := hw'.symm; clear l1
    go_wp2_with fail
    refine hr.mono ?_
    rintro e w2 ⟨v, rfl, ⟨p1, c1, p2, c2, rfl, o1, o2, hne⟩, hk2⟩
    obtain ⟨L1, hL1⟩ : ∃ L1, L1 = (dig R).length := ⟨_, rfl⟩
    obtain ⟨L2, hL2⟩ : ∃ L2, L2 = (dig D).length := ⟨_, rfl⟩
    have h0 := dig_len_zero D
    rw [← hL2] at h0
    obtain ⟨bb, hbb⟩ : ∃ bb, bb = decide (D = 0) := ⟨_, rfl⟩
    have tb : decide ((L2 : Int) = 0) = bb := by
      rw [hbb]
      by_cases e : D = 0
      · rw [decide_eq_true e, decide_eq_true (by have := h0.2 e; omega)]
      · rw [decide_eq_false e, decide_eq_false (by have := mt h0.1 e; omega)]
    have tb2 : ((L2 : Int) == 0) = bb := tb
    have HZ : Hid (Own w2 w.heap.size (.slice p1 L1 c1) (dig R) ∧ Kp w w2 ∧ bb = decide (D = 0)) := ⟨by rw [hL1]; exact o1, hk2, hbb⟩
    rw [← hL1, ← hL2]
    clear hr o1 o2 hne hk2 hL1 hL2 h0 hbb tb
    go_wp2
    exact bodyPost_ret (v := .tuple #[.slice p1 L1 c1, .bool bb, .int .i64 0]) (by simp [results, Tryz.results88, go_sem]) rfl ⟨_, by rw [HZ.out.2.2], HZ.out.1, HZ.out.2.1⟩
end Go.Proofs.YtkheefoabcibkaaGreatDoor
namespace Go.Proofs.YtkheefoabcibkaaGreatDoor
open Go.RowKit
/-- a is a number of K words at most -/
def Sm (K a : Nat) : Prop := a < 4294967296 ^ K
theorem Sm.mono {K J a : Nat} (h : Sm K a) (hk : K ≤ J) : Sm J a := Nat.lt_of_lt_of_le h (Nat.pow_le_pow_right (by decide) hk)
theorem Sm.add {K a b : Nat} (h : Sm K a) (k : Sm K b) : Sm (K + 1) (a + b) := by
  unfold Sm at *
  rw [Nat.pow_succ]
  generalize 4294967296 ^ K = P at *
  omega
theorem Sm.mul {K J a b : Nat} (h : Sm K a) (k : Sm J b) : Sm (K + J) (a * b) := by
  unfold Sm at *
  rw [Nat.pow_add]
  by_cases e : b = 0
  · subst e
    rw [Nat.mul_zero]
    exact Nat.mul_pos (Nat.pow_pos (by decide)) (Nat.pow_pos (by decide))
  · exact Nat.mul_lt_mul_of_lt_of_le h (Nat.le_of_lt k) (by omega)
theorem Sm.one {K : Nat} (h : 0 < K) : Sm K 1 := Nat.one_lt_pow (by omega) (by decide)
theorem Sm.len {K a : Nat} (h : Sm K a) : len32 a ≤ K := by
  by_cases c : len32 a ≤ K
  · exact c
  · exfalso
    have := len32_lt a K (by omega)
    unfold Sm at h
    omega
theorem Sm.val {xs : List Int} (h : Wd xs) : Sm xs.length (Go.Proofs.YtkheefoabcibkaaGreatDoor.val xs) := val_lt xs h
/-- v is a list that reads L -/
def LsN (w : World) (v : Value) (L : List Int) : Prop := ∃ p c, v = .slice p L.length c ∧ Arr w p L ∧ L.length ≤ c
theorem LsN.kp {w w' : World} {v : Value} {L : List Int} (h : LsN w v L) (k : Kp w w') : LsN w' v L := by
  obtain ⟨p, c, e, hA, hc⟩ := h
  exact ⟨p, c, e, hA.grown k, hc⟩
theorem Own.lsN {w : World} {base : Nat} {v : Value} {L : List Int} (h : Own w base v L) : LsN w v L := by
  obtain ⟨p, c, e, hA, hc⟩ := h.arr
  exact ⟨p, c, e, hA, hc⟩
end Go.Proofs.YtkheefoabcibkaaGreatDoor
namespace Go.Proofs.YtkheefoabcibkaaGreatDoor
open Go.RowKit
theorem rem_val (xs : List Int) (hw : Wd xs) (o s X : Nat) (hs : s < 32) (ho : o < xs.length) (hX : (xs.getD o 0).toNat = X) : val ((xs.take (o + 1)).set o ((X % 2 ^ s : Nat) : Int)) = val xs % 2 ^ (32 * o + s) := by
  have hl : o < (xs.take (o + 1)).length := by rw [List.length_take]; omega
  have h1 := val_set (xs.take (o + 1)) o ((X % 2 ^ s : Nat) : Int) hl
  have hg : (xs.take (o + 1)).getD o 0 = xs.getD o 0 := by simp [List.getD]
  rw [hg, hX, val_take_succ, hX, Int.toNat_natCast] at h1
  have h2 : val ((xs.take (o + 1)).set o ((X % 2 ^ s : Nat) : Int)) = val (xs.take o) + X % 2 ^ s * 4294967296 ^ o := by omega
  obtain ⟨d1, d2⟩ := val_div xs hw o (by omega)
  have hdr : val (xs.drop o) = X + 4294967296 * val (xs.drop (o + 1)) := by
    rw [List.drop_eq_getElem_cons ho]
    have e : (xs.getD o 0) = xs[o] := by simp [List.getD, ho]
    show (xs[o]).toNat + 4294967296 * val (xs.drop (o + 1)) = _
    rw [← e, hX]
  have hm : (X + 4294967296 * val (xs.drop (o + 1))) % 2 ^ s = X % 2 ^ s := by
    rw [split32 s hs, Nat.mul_assoc, Nat.add_mul_mod_self_left]
  rw [h2, Nat.pow_add, ← pow32, Nat.mod_mul, d1, d2, hdr, hm, Nat.mul_comm (4294967296 ^ o)]
/-- a root by halves: A is h 4^l + m 2^l + w (P: 2^l) -/
theorem zimm (A P h m v t k q left S rest : Nat) (hP : 0 < P) (hA : A = (h * P + m) * P + v) (hm : m < P) (hv : v < P) (hh : P * P ≤ h) (ht : IsRt h t) (hk : k = h - t * t) (hq : q * (2 * t) + left = k * P + m) (hl : left < 2 * t) (hS : S = t * P + q) (hr : rest = left * P + v) :
    (q * q ≤ rest → IsRt A S ∧ rest - q * q = A - S * S) ∧ (rest < q * q → 1 ≤ S ∧ IsRt A (S - 1) ∧ q * q ≤ rest + S + (S - 1) ∧ rest + S + (S - 1) - q * q = A - (S - 1) * (S - 1)) := by
  obtain ⟨t1, t2⟩ := ht
  have htP : P ≤ t := by
    by_cases c : P ≤ t
    · exact c
    · exfalso
      have := Nat.mul_le_mul (show t + 1 ≤ P by omega) (show t + 1 ≤ P by omega)
      omega
  have hk2 : k ≤ 2 * t := by
    have e : (t + 1) * (t + 1) = t * t + 2 * t + 1 := by rw [Nat.add_mul, Nat.mul_add, Nat.one_mul]; omega
    omega
  have hqP : q ≤ P := by
    by_cases c : q ≤ P
    · exact c
    · exfalso
      have e1 : (P + 1) * (2 * t) ≤ q * (2 * t) := Nat.mul_le_mul_right _ (by omega)
      have e2 : k * P ≤ 2 * t * P := Nat.mul_le_mul_right _ hk2
      rw [Nat.add_mul, Nat.one_mul, Nat.mul_comm P] at e1
      omega
  have hqq : q * q ≤ S := by
    have e1 : q * q ≤ P * P := Nat.mul_le_mul hqP hqP
    have e2 : P * P ≤ t * P := Nat.mul_le_mul_right _ htP
    omega
  -- S S + rest = A + q q
  have hSS : S * S + rest = A + q * q := by
    have e0 : h = t * t + k := by omega
    have e1 : S * S = t * t * P * P + 2 * t * q * P + q * q := by
      rw [hS, Nat.add_mul, Nat.mul_add, Nat.mul_add]
      have a1 : t * P * (t * P) = t * t * P * P := by rw [Nat.mul_mul_mul_comm, ← Nat.mul_assoc]
      have a2 : t * P * q = t * q * P := Nat.mul_right_comm _ _ _
      have a3 : q * (t * P) = t * q * P := by rw [Nat.mul_comm q, Nat.mul_right_comm]
      have a4 : 2 * t * q * P = t * q * P + t * q * P := by rw [Nat.mul_assoc 2, Nat.mul_assoc 2]; omega
      rw [a1, a2, a3, a4]
      omega
    have e2 : A = t * t * P * P + (k * P + m) * P + v := by
      rw [hA, e0]
      simp only [Nat.add_mul]
      omega
    have e3 : (k * P + m) * P = 2 * t * q * P + left * P := by
      rw [← hq, Nat.add_mul, Nat.mul_comm q]
    rw [e1, e2, e3, hr]
    omega
  have hrS : rest < 2 * S + 1 := by
    have e1 : (left + 1) * P ≤ 2 * t * P := Nat.mul_le_mul_right _ hl
    rw [Nat.add_mul, Nat.one_mul, Nat.mul_assoc] at e1
    omega
  have hS1 : 1 ≤ S := by
    have : 1 * 1 ≤ t * P := Nat.mul_le_mul (by omega) (by omega)
    omega
  have eS : (S + 1) * (S + 1) = S * S + 2 * S + 1 := by rw [Nat.add_mul, Nat.mul_add, Nat.one_mul]; omega
  refine ⟨fun hc => ⟨⟨by omega, by omega⟩, by omega⟩, fun hc => ?_⟩
  obtain ⟨R, rfl⟩ : ∃ R, S = R + 1 := ⟨S - 1, by omega⟩
  have eR : (R + 1) * (R + 1) = R * R + 2 * R + 1 := by rw [Nat.add_mul, Nat.mul_add, Nat.one_mul]; omega
  rw [Nat.add_sub_cancel]
  exact ⟨by omega, ⟨by omega, by omega⟩, by omega, by omega⟩
/-- the parts of a number at a quarter of its bits -/
theorem quarters (A l : Nat) (h : 2 ^ (4 * l) ≤ A) : A = (A / 2 ^ (2 * l) * 2 ^ l + A / 2 ^ l % 2 ^ l) * 2 ^ l + A % 2 ^ l ∧ 2 ^ l * 2 ^ l ≤ A / 2 ^ (2 * l) := by
  have e1 : (2 : Nat) ^ (2 * l) = 2 ^ l * 2 ^ l := by rw [← Nat.pow_add]; congr 1; omega
  have e2 : (2 : Nat) ^ (4 * l) = 2 ^ l * 2 ^ l * (2 ^ l * 2 ^ l) := by rw [← Nat.pow_add, ← Nat.pow_add]; congr 1; omega
  have hp : 0 < 2 ^ l := Nat.pow_pos (by omega)
  constructor
  · rw [e1, ← Nat.div_div_eq_div_mul]
    have a1 := Nat.div_add_mod (A / 2 ^ l) (2 ^ l)
    have a2 := Nat.div_add_mod A (2 ^ l)
    rw [Nat.mul_comm] at a1 a2
    rw [a1, a2]
  · rw [e1, Nat.le_div_iff_mul_le (Nat.mul_pos hp hp), ← e2]
    exact h
end Go.Proofs.YtkheefoabcibkaaGreatDoor
namespace Go.Proofs.YtkheefoabcibkaaGreatDoor
open Go.RowKit
theorem rt_le (h : Nat) : rtN h ≤ h := by
  have h1 := (rtN_is h).1
  by_cases e : rtN h = 0
  · omega
  · have : rtN h * 1 ≤ rtN h * rtN h := Nat.mul_le_mul_left _ (by omega)
    omega
theorem half_le (A l : Nat) : A / 2 ^ (2 * l) * 2 ^ l ≤ A := by
  have e1 : (2 : Nat) ^ (2 * l) = 2 ^ l * 2 ^ l := by rw [← Nat.pow_add]; congr 1; omega
  have h1 : A / 2 ^ (2 * l) * 2 ^ (2 * l) ≤ A := Nat.div_mul_le_self _ _
  refine Nat.le_trans (Nat.mul_le_mul_left _ ?_) h1
  rw [e1]
  exact Nat.le_mul_of_pos_left _ (Nat.pow_pos (by omega))
theorem quarter (A : Nat) (h : 18446744073709551616 ≤ A) : 2 ^ (4 * ((blen A - 1) / 4)) ≤ A ∧ 1 ≤ (blen A - 1) / 4 ∧ 2 * ((blen A - 1) / 4) < blen A := by
  obtain ⟨a, b, c⟩ := blen_spec A (by omega)
  have h64 : 64 < blen A := by
    by_cases e : 64 < blen A
    · exact e
    · exfalso
      have : (2 : Nat) ^ blen A ≤ 2 ^ 64 := Nat.pow_le_pow_right (by omega) (by omega)
      have e2 : (2 : Nat) ^ 64 = 18446744073709551616 := by decide
      omega
  refine ⟨Nat.le_trans (Nat.pow_le_pow_right (by omega) (by omega)) a, by omega, by omega⟩
theorem bits_words (a m : Nat) (h : m < blen a) : m / 32 < (dig a).length := by
  have h0 : a ≠ 0 := fun e => by rw [e, blen_zero] at h; omega
  have h1 : blen a ≤ 32 * len32 a := blen_len a (len32 a) (Nat.le_refl _)
  have h2 : (dig a).length = len32 a := rfl
  omega
theorem blen_div (a l : Nat) (h : 2 * l < blen a) : l < blen (a / 2 ^ l) := by
  have h0 : a ≠ 0 := fun e => by rw [e, blen_zero] at h; omega
  obtain ⟨x, _, z⟩ := blen_spec a h0
  have h1 : 2 ^ l ≤ a / 2 ^ l := by
    rw [Nat.le_div_iff_mul_le (Nat.pow_pos (by omega)), ← Nat.pow_add]
    exact Nat.le_trans (Nat.pow_le_pow_right (by omega) (by omega)) x
  by_cases e : l < blen (a / 2 ^ l)
  · exact e
  · exfalso
    have hne : a / 2 ^ l ≠ 0 := by have := Nat.pow_pos (n := l) (show 0 < 2 by omega); omega
    have h2 := (blen_spec (a / 2 ^ l) hne).2.1
    have h3 : (2 : Nat) ^ blen (a / 2 ^ l) ≤ 2 ^ l := Nat.pow_le_pow_right (by omega) (by omega)
    omega
theorem sz {K A x : Nat} (h : A < 4294967296 ^ K) (hk : K ≤ 16384) (hx : x ≤ 16 * A) : (dig x).length ≤ 16385 := by
  have h1 : x < 4294967296 ^ (K + 1) := by
    rw [Nat.pow_succ]
    generalize 4294967296 ^ K = P at *
    omega
  have h2 : (dig x).length = len32 x := rfl
  by_cases e : (dig x).length ≤ 16385
  · exact e
  · exfalso
    have := len32_lt x (K + 1) (by omega)
    omega
theorem words3 (A : Nat) (h : 2 < (dig A).length) : 18446744073709551616 ≤ A := by
  have h1 := len32_lt A 2 h
  have h2 : (4294967296 : Nat) ^ 2 = 18446744073709551616 := by decide
  omega
end Go.Proofs.YtkheefoabcibkaaGreatDoor
namespace Go.Proofs.YtkheefoabcibkaaGreatDoor
open Go.RowKit
set_option maxRecDepth 20000 in
theorem sl32t (b off h N c : Nat) (hc : h ≤ c) (w : World) : (Instr.slice 63 (.slice (some ⟨b, off, none⟩) N c) none (some (.int .i64 (h : Int))) none).run Tryz.prog w = .ok (.slice (some ⟨b, off, none⟩) h c) w := by
  rw [run_slice_h w 63 (some ⟨b, off, none⟩) N c Tryz.underlying63 .i64 (h : Int) (by omega) (by omega)]
  have e : (sizeOf (Tryz.prog.elem 63)).run Tryz.prog w = .ok 1 w := by kernel_rfl
  rw [e]
  simp [Result.andThen, sliced, Addr.add_lit]
set_option maxRecDepth 20000 in
set_option maxHeartbeats 1000000 in
theorem remnant_ (p : Option Addr) (c m : Nat) (xs : List Int) (w : World) (hx : Arr w p xs) (hwx : Wd xs) (lx : xs.length ≤ 1048576) (hc : xs.length ≤ c) (ho : m / 32 < xs.length) :
    Calls Tryz.prog 141 #[.slice p xs.length c, .int .i64 (m : Int)] w fun e w' => ∃ v, e = .returned v ∧ Own w' w.heap.size v (dig (val xs % 2 ^ m)) ∧ Kp w w' := by
  obtain ⟨o, ho9⟩ : ∃ o, o = m / 32 := ⟨_, rfl⟩
  obtain ⟨s, hs⟩ : ∃ s, s = m % 32 := ⟨_, rfl⟩
  rw [← ho9] at ho
  have hms : m = 32 * o + s := by omega
  have hs32 : s < 32 := by omega
  have f1 : (m : Int) / 32 = (o : Int) := by omega
  have f2 : (m : Int) % 32 = (s : Int) := by omega
  obtain ⟨b, off, rfl, hcell⟩ := hx.at (k := o) ho
  have hfr := fresh_ (some ⟨b, off, none⟩) c (xs.take (o + 1)) w (hx.take _) (by rw [List.length_take]; omega)
  have hlt : (xs.take (o + 1)).length = o + 1 := by rw [List.length_take]; omega
  rw [hlt] at hfr
  have wx := hwx o
  obtain ⟨X, hX⟩ : ∃ X : Nat, (X : Int) = xs.getD o 0 := ⟨_, Int.toNat_of_nonneg wx.1⟩
  have hrv := rem_val xs hwx o s X hs32 ho (by rw [← hX]; rfl)
  rw [← hms] at hrv
  have hsl := sl32t b off (o + 1) xs.length c (by omega)
  rw [show ((o + 1 : Nat) : Int) = (o : Int) + 1 from by omega] at hsl
  obtain ⟨P, hP⟩ : ∃ P, P = 2 ^ s := ⟨_, rfl⟩
  have hP0 : 0 < P := by rw [hP]; exact Nat.pow_pos (by omega)
  have hP32 : P < 4294967296 := by
    rw [hP]
    have : (2 : Nat) ^ s < 2 ^ 32 := Nat.pow_lt_pow_right (by decide) hs32
    exact this
  obtain ⟨P1, hP1⟩ : ∃ P1, P1 = P - 1 := ⟨_, rfl⟩
  have hPc : ((2 : Int) ^ s) = (P : Int) := by rw [hP]; norm_cast
  have g1 : IntKind.u32.wrap ((2 : Int) ^ s) = (P : Int) := by rw [hPc, IntKind.wrap_u32]; omega
  have g1b : IntKind.u32.wrap (1 * (2 : Int) ^ s) = (P : Int) := by rw [Int.one_mul]; exact g1
  have g2 : IntKind.u32.wrap ((P : Int) - 1) = (P1 : Int) := by rw [IntKind.wrap_u32]; omega
  obtain ⟨Z, hZ⟩ : ∃ Z, Z = X % 2 ^ s := ⟨_, rfl⟩
  have hZ32 : Z < 4294967296 := by have := Nat.mod_le X (2 ^ s); omega
  have g3 : bits BinOp.and IntKind.u32 (X : Int) (P1 : Int) = (Z : Int) := by
    rw [u32_and_nat X P1 (by omega) (by omega), hP1, hP, Nat.and_two_pow_sub_one_eq_mod, ← hZ]
  rw [← hZ] at hrv
  obtain ⟨ys, hys⟩ : ∃ ys, ys = xs.take (o + 1) := ⟨_, rfl⟩
  rw [← hys] at hfr hlt hrv
  have hwy : Wd ys := by rw [hys]; exact hwx.take _
  have hyX : ys.getD o 0 = (X : Int) := by rw [hys, hX]; simp [List.getD]
  obtain ⟨N, hN⟩ : ∃ N, N = xs.length := ⟨_, rfl⟩
  rw [← hN] at hsl
  rw [← hN]
  have lo : o ≤ 1048576 := by omega
  have i0 : (0 : Int) ≤ (o : Int) := by omega
  have i1 : (o : Int) < (o : Int) + 1 := by omega
  have i2 : (0 : Int) ≤ (s : Int) := by omega
  have HY : Hid (ys.length = o + 1 ∧ Wd ys ∧ ys.getD o 0 = (X : Int) ∧ val (ys.set o (Z : Int)) = val xs % 2 ^ m ∧ Z < 4294967296) := ⟨hlt, hwy, hyX, hrv, hZ32⟩
  clear hx hwx lx hc ho ho9 hs hms hs32 hcell hlt wx hX hrv hP hP0 hP32 hP1 hPc hZ hZ32 hys hwy hyX hN
  go_enter Tryz.func141, Tryz.ntmps141
  go_wp2_with fail
  refine hfr.mono ?_
  rintro e w1 ⟨g, rfl, hg, hR, hk⟩
  obtain ⟨hyl, hwy, hyX, hyv, hZ32⟩ := HY.out
  have e1 := World.rowIs.cell hR (i := o) (by omega)
  rw [hyX] at e1
  have e4 := World.rowIs.frozen hR o
  have hR2 : Rw (w1.setCell ⟨g, o, none⟩ (.int .u32 (Z : Int))).drew g (o + 1) (ys.set o (Z : Int)) := hR.set o (Z : Int) (by omega)
  have hK2 : Kp w (w1.setCell ⟨g, o, none⟩ (.int .u32 (Z : Int))).drew := (hk.setCell hg _).drew
  have hl2 : (ys.set o (Z : Int)).length = o + 1 := by rw [List.length_set]; exact hyl
  have hw2 : Wd (ys.set o (Z : Int)) := hwy.set o Z (by omega)
  have htr := trim_ (some ⟨g, 0, none⟩) (o + 1) (ys.set o (Z : Int)) _ (hR2.all hl2) (by omega) (by omega)
  have hO : Own (w1.setCell ⟨g, o, none⟩ (.int .u32 (Z : Int))).drew w.heap.size (.slice (some ⟨g, 0, none⟩) (tl (ys.set o (Z : Int))) (o + 1)) (dig (val xs % 2 ^ m)) := by
    have h1 := Own.of_row (base := w.heap.size) (k := tl (ys.set o (Z : Int))) hR2 hg (by have := tl_le (ys.set o (Z : Int)); omega) hl2 (by unfold maxLen; omega)
    have h2 : (ys.set o (Z : Int)).take (tl (ys.set o (Z : Int))) = dig (val xs % 2 ^ m) := by rw [← hyv, ← nz_dig _ hw2]; rfl
    rw [h2] at h1
    exact h1
  rw [hl2] at htr
  obtain ⟨T, hT⟩ : ∃ T, T = tl (ys.set o (Z : Int)) := ⟨_, rfl⟩
  rw [← hT] at htr hO
  have HZ : Hid (Own (w1.setCell ⟨g, o, none⟩ (.int .u32 (Z : Int))).drew w.heap.size (.slice (some ⟨g, 0, none⟩) T (o + 1)) (dig (val xs % 2 ^ m)) ∧ Kp w (w1.setCell ⟨g, o, none⟩ (.int .u32 (Z : Int))).drew) := ⟨hO, hK2⟩
  clear hfr HY hyl hwy hyX hyv hZ32 hR2 hK2 hl2 hw2 hO hT hR hk hg hsl
  go_wp2
  first | (go_region_with (fail)) | fail
  all_goals
    clear e1 e4 g1 g1b g2 g3
    go_wp2_with (first | (go_at_call 99; refine htr.mono ?_; rintro e w' ⟨rfl, hw'⟩; obtain rfl := hw'.symm))
    exact bodyPost_ret (v := .slice (some ⟨g, 0, none⟩) T (o + 1)) (by simp [results, Tryz.results141, go_sem]) rfl ⟨_, rfl, HZ.out.1, HZ.out.2⟩
set_option maxRecDepth 20000 in
set_option maxHeartbeats 1000000 in
theorem raised0_ (p : Option Addr) (c : Nat) (m : Int) (w : World) :
    Calls Tryz.prog 102 #[.slice p 0 c, .int .i64 m] w fun e w' => ∃ v, e = .returned v ∧ Own w' w.heap.size v [] ∧ Kp w w' := by
  go_enter Tryz.func102, Tryz.ntmps102
  go_wp2
  exact bodyPost_ret (v := .slice none 0 0) (by simp [results, Tryz.results102, go_sem]) rfl ⟨_, rfl, Own.nil _ _, Kp.refl _⟩
end Go.Proofs.YtkheefoabcibkaaGreatDoor
namespace Go.Proofs.YtkheefoabcibkaaGreatDoor
open Go.RowKit
set_option maxRecDepth 20000 in
theorem LsN.len {w : World} {v : Value} {L : List Int} (h : LsN w v L) : ∃ p c, v = .slice p L.length c ∧ Arr w p L ∧ L.length ≤ c := h
set_option maxRecDepth 20000 in
theorem raisedB (v : Value) (a m : Nat) (w : World) (h : LsN w v (dig a)) (l : (dig a).length ≤ 1048576) (hm : m ≤ 16777216) :
    Calls Tryz.prog 102 #[v, .int .i64 (m : Int)] w fun e w' => ∃ v', e = .returned v' ∧ Own w' w.heap.size v' (dig (a * 2 ^ m)) ∧ Kp w w' := by
  obtain ⟨p, c, rfl, hA, hc⟩ := h
  by_cases e0 : (dig a).length = 0
  · have ha := (dig_len_zero a).1 e0
    have h := raised0_ p c (m : Int) w
    rw [e0, ha, Nat.zero_mul, dig_zero]
    exact h
  have h := raised_ p c m (dig a) w hA (Wd_dig a) (by omega) l hm
  rw [val_dig] at h
  exact h
set_option maxRecDepth 20000 in
theorem loweredB (v : Value) (a m : Nat) (w : World) (h : LsN w v (dig a)) (l : (dig a).length ≤ 1048576) (hm9 : (m : Int) < 9223372036854775808) :
    Calls Tryz.prog 139 #[v, .int .i64 (m : Int)] w fun e w' => ∃ v', e = .returned v' ∧ Own w' w.heap.size v' (dig (a / 2 ^ m)) ∧ Kp w w' := by
  obtain ⟨p, c, rfl, hA, hc⟩ := h
  have h := lowered_ p c m (dig a) w hA (Wd_dig a) l hc hm9
  rw [val_dig] at h
  exact h
set_option maxRecDepth 20000 in
theorem remB (v : Value) (a m : Nat) (w : World) (h : LsN w v (dig a)) (l : (dig a).length ≤ 1048576) (ho : m / 32 < (dig a).length) :
    Calls Tryz.prog 141 #[v, .int .i64 (m : Int)] w fun e w' => ∃ v', e = .returned v' ∧ Own w' w.heap.size v' (dig (a % 2 ^ m)) ∧ Kp w w' := by
  obtain ⟨p, c, rfl, hA, hc⟩ := h
  have h := remnant_ p c m (dig a) w hA (Wd_dig a) l hc ho
  rw [val_dig] at h
  exact h
set_option maxRecDepth 20000 in
theorem sumB (v1 v2 : Value) (a b : Nat) (w : World) (h1 : LsN w v1 (dig a)) (h2 : LsN w v2 (dig b)) (l1 : (dig a).length ≤ 1048576) (l2 : (dig b).length ≤ 1048576) :
    Calls Tryz.prog 104 #[v1, v2] w fun e w' => ∃ v', e = .returned v' ∧ Own w' w.heap.size v' (dig (a + b)) ∧ Kp w w' := by
  obtain ⟨p, c, rfl, hA, hc⟩ := h1
  obtain ⟨q, d, rfl, hB, hd⟩ := h2
  have h := sum_any p q c d (dig a) (dig b) w hA hB (Wd_dig a) (Wd_dig b) (by omega) (by omega)
  rw [val_dig, val_dig] at h
  exact h
set_option maxRecDepth 20000 in
theorem prodB (v1 v2 : Value) (a b : Nat) (w : World) (h1 : LsN w v1 (dig a)) (h2 : LsN w v2 (dig b)) (l1 : (dig a).length ≤ 1048576) (l2 : (dig b).length ≤ 1048576) :
    Calls Tryz.prog 115 #[v1, v2] w fun e w' => ∃ v', e = .returned v' ∧ Own w' w.heap.size v' (dig (a * b)) ∧ Kp w w' := by
  obtain ⟨p, c, rfl, hA, hc⟩ := h1
  obtain ⟨q, d, rfl, hB, hd⟩ := h2
  have h := product_ p q c d (dig a) (dig b) w hA hB (Wd_dig a) (Wd_dig b) (by omega) (by omega)
  rw [val_dig, val_dig] at h
  exact h
set_option maxRecDepth 20000 in
theorem diffB (v1 v2 : Value) (a b : Nat) (w : World) (h1 : LsN w v1 (dig a)) (h2 : LsN w v2 (dig b)) (l1 : (dig a).length ≤ 1048576) (_l2 : (dig b).length ≤ 1048576) (hle : b ≤ a) :
    Calls Tryz.prog 107 #[v1, v2] w fun e w' => ∃ v', e = .returned v' ∧ Own w' w.heap.size v' (dig (a - b)) ∧ Kp w w' := by
  obtain ⟨p, c, rfl, hA, hc⟩ := h1
  obtain ⟨q, d, rfl, hB, hd⟩ := h2
  have h := diff_ p q c d (dig a) (dig b) w hA hB (Wd_dig a) (Wd_dig b) (by omega) (len32_mono hle) (by rw [val_dig, val_dig]; exact hle)
  rw [val_dig, val_dig] at h
  exact h
set_option maxRecDepth 20000 in
theorem cmpB (v1 v2 : Value) (a b : Nat) (w : World) (h1 : LsN w v1 (dig a)) (h2 : LsN w v2 (dig b)) (l1 : (dig a).length ≤ 1048576) (l2 : (dig b).length ≤ 1048576) :
    Calls Tryz.prog 77 #[v1, v2] w fun e w' => e = .returned (.int .i64 (cmpN a b)) ∧ Kp w w' := by
  obtain ⟨p, c, rfl, hA, hc⟩ := h1
  obtain ⟨q, d, rfl, hB, hd⟩ := h2
  have h := ncmp_ p q c d (dig a) (dig b) w hA hB (Wd_dig a) (Wd_dig b) (by omega) (by omega) hc hd
  rw [val_dig, val_dig] at h
  exact h
set_option maxRecDepth 20000 in
theorem quoB (v1 v2 : Value) (a b : Nat) (w : World) (h1 : LsN w v1 (dig a)) (h2 : LsN w v2 (dig b)) (l1 : (dig a).length ≤ 1048576) (l2 : (dig b).length ≤ 1048576) (h0 : 0 < b) :
    Calls Tryz.prog 140 #[v1, v2] w fun e w' => ∃ q r, e = .returned (.tuple #[q, r]) ∧ LsN w' q (dig (a / b)) ∧ LsN w' r (dig (a % b)) ∧ Kp w w' := by
  obtain ⟨p, c, rfl, hA, hc⟩ := h1
  obtain ⟨q, d, rfl, hB, hd⟩ := h2
  have h := quotient_ p q c d (dig a) (dig b) w hA hB (by rw [val_dig]) (by rw [val_dig]) l1 l2 hc hd (by rw [val_dig]; exact h0)
  rw [val_dig, val_dig] at h
  exact h.mono fun e w' ⟨v, he, ⟨p1, c1, p2, c2, e2, o1, o2, _⟩, hk⟩ => ⟨_, _, by rw [he, e2], o1.lsN, o2.lsN, hk⟩
end Go.Proofs.YtkheefoabcibkaaGreatDoor
namespace Go.Proofs.YtkheefoabcibkaaGreatDoor
open Go.RowKit
theorem root_ints (bl b1 l l2 : Nat) (hl : l = (bl - 1) / 4) (hb : b1 = bl - 1) (hl2 : l2 = 2 * l) (hB : bl ≤ 524288) (h0 : 1 ≤ bl) : wrap64 ((bl : Int) - 1) = (b1 : Int) ∧ Int.tdiv (b1 : Int) 4 = (l : Int) ∧ (b1 : Int) / 4 = (l : Int) ∧ wrap64 (l : Int) = (l : Int) ∧ wrap64 (2 * (l : Int)) = (l2 : Int) ∧ 2 * (l : Int) = (l2 : Int) ∧ l ≤ 131072 ∧ l2 ≤ 262144 := by
  refine ⟨?_, by rw [hl, hb]; rfl, by omega, w64 _ (by omega) (by omega), ?_, by omega, by omega, by omega⟩
  · rw [show (bl : Int) - 1 = (b1 : Int) from by omega]; exact w64 _ (by omega) (by omega)
  · rw [show 2 * (l : Int) = (l2 : Int) from by omega]; exact w64 _ (by omega) (by omega)
theorem root_sizes (A P h m v t k N1 D q lf S R K : Nat) (hSm : A < 4294967296 ^ K) (hK : K ≤ 16384) (b2 : h ≤ A) (b3 : t ≤ h) (b7 : t * P ≤ A) (b8 : k * P ≤ A) (hk : k ≤ h) (b5 : m ≤ A) (b6 : v ≤ A) (b4 : A / P ≤ A) (hN1 : N1 = k * P + m) (hD : D = 2 * t) (b9 : q ≤ N1) (b10 : lf < D) (b11 : lf * P ≤ 2 * A) (hS : S = t * P + q) (hR : R = lf * P + v) (h1 : 1 ≤ A) :
    (dig (A)).length ≤ 1048576 ∧ (dig (A / P)).length ≤ 1048576 ∧ (dig (k)).length ≤ 1048576 ∧ (dig (k * P)).length ≤ 1048576 ∧ (dig (m)).length ≤ 1048576 ∧ (dig (N1)).length ≤ 1048576 ∧ (dig (D)).length ≤ 1048576 ∧ (dig (t)).length ≤ 1048576 ∧ (dig (t * P)).length ≤ 1048576 ∧ (dig (q)).length ≤ 1048576 ∧ (dig (lf)).length ≤ 1048576 ∧ (dig (lf * P)).length ≤ 1048576 ∧ (dig (v)).length ≤ 1048576 ∧ (dig (R)).length ≤ 1048576 ∧ (dig (S)).length ≤ 1048576 ∧ (dig (R + S)).length ≤ 1048576 ∧ (dig (S - 1)).length ≤ 1048576 ∧ (dig (R + S + (S - 1))).length ≤ 1048576 ∧ (dig (1)).length ≤ 1048576 := by
  have z : ∀ x, x ≤ 16 * A → (dig x).length ≤ 1048576 := fun x hx => Nat.le_trans (sz hSm hK hx) (by omega)
  clear hSm hK
  exact ⟨z _ (by omega), z _ (by omega), z _ (by omega), z _ (by omega), z _ (by omega), z _ (by omega), z _ (by omega), z _ (by omega), z _ (by omega), z _ (by omega), z _ (by omega), z _ (by omega), z _ (by omega), z _ (by omega), z _ (by omega), z _ (by omega), z _ (by omega), z _ (by omega), z _ (by omega)⟩
set_option maxRecDepth 20000 in
set_option maxHeartbeats 1000000 in
theorem root_ (A : Nat) : ∀ (p : Option Addr) (c : Nat) (w : World), Arr w p (dig A) → (dig A).length ≤ c → (dig A).length ≤ 16384 →
    Calls Tryz.prog 117 #[.slice p (dig A).length c] w fun e w' => ∃ v, e = .returned v ∧ Two w' w.heap.size (dig (rtN A)) (dig (A - rtN A * rtN A)) v ∧ Kp w w' := by
  induction A using Nat.strongRecOn with
  | ind A ih =>
  intro p c w hx hc0 lA
  by_cases c2 : (dig A).length ≤ 2
  · have h := root2_ p c (dig A) w hx (Wd_dig A) c2
    rw [val_dig] at h
    exact h
  · obtain ⟨l, hl⟩ : ∃ l, l = (blen A - 1) / 4 := ⟨_, rfl⟩
    have hw3 := words3 A (by omega)
    obtain ⟨q1, q2, q3⟩ := quarter A hw3
    rw [← hl] at q1 q2 q3
    obtain ⟨d1, d2⟩ := quarters A l q1
    have hSm : A < 4294967296 ^ len32 A := len32_up A (len32 A) (Nat.le_refl _)
    have hK : len32 A ≤ 16384 := lA
    have hB : blen A ≤ 524288 := Nat.le_trans (blen_len A (len32 A) (Nat.le_refl _)) (by omega)
    have hP : 0 < 2 ^ l := Nat.pow_pos (by omega)
    have hP2 : 2 ≤ 2 ^ l := by
      have : (2 : Nat) ^ 1 ≤ 2 ^ l := Nat.pow_le_pow_right (by omega) q2
      simpa using this
    obtain ⟨h, hh⟩ : ∃ h, h = A / 2 ^ (2 * l) := ⟨_, rfl⟩
    obtain ⟨t, ht⟩ : ∃ t, t = rtN h := ⟨_, rfl⟩
    obtain ⟨k, hk0⟩ : ∃ k, k = h - t * t := ⟨_, rfl⟩
    obtain ⟨m, hm⟩ : ∃ m, m = A / 2 ^ l % 2 ^ l := ⟨_, rfl⟩
    obtain ⟨v, hv⟩ : ∃ v, v = A % 2 ^ l := ⟨_, rfl⟩
    obtain ⟨P, hPe⟩ : ∃ P, P = 2 ^ l := ⟨_, rfl⟩
    have b1 := half_le A l
    have b2 : h ≤ A := by rw [hh]; exact Nat.div_le_self _ _
    have b3 : t ≤ h := by rw [ht]; exact rt_le h
    have b4 : A / 2 ^ l ≤ A := Nat.div_le_self _ _
    have b5 : m ≤ A / 2 ^ l := by rw [hm]; exact Nat.mod_le _ _
    have b6 : v ≤ A := by rw [hv]; exact Nat.mod_le _ _
    have hhA : h < A := by
      have h1 : 1 ≤ 2 * l := by omega
      have h2 : (2 : Nat) ^ 1 ≤ 2 ^ (2 * l) := Nat.pow_le_pow_right (by omega) h1
      have h3 := words3 A (by omega)
      rw [hh]
      exact Nat.div_lt_self (by omega) (by omega)
    have o1 : l / 32 < (dig (A / 2 ^ l)).length := bits_words _ _ (blen_div A l q3)
    have o2 : l / 32 < (dig A).length := bits_words _ _ (by omega)
    have hrt : IsRt h t := by rw [ht]; exact rtN_is h
    rw [← hPe] at b1 d1 d2 b4 b5 hP hP2 o1 hm hv
    rw [← hm, ← hv, ← hh] at d1
    rw [← hh] at d2 b1
    have b7 : t * P ≤ A := Nat.le_trans (Nat.mul_le_mul_right P b3) b1
    have b8 : k * P ≤ A := Nat.le_trans (Nat.mul_le_mul_right P (by omega)) b1
    have hPt : P ≤ t := by
      by_cases c : P ≤ t
      · exact c
      · exfalso
        have h1 := hrt.2
        have := Nat.mul_le_mul (show t + 1 ≤ P by omega) (show t + 1 ≤ P by omega)
        omega
    obtain ⟨N1, hN1⟩ : ∃ N1, N1 = k * P + m := ⟨_, rfl⟩
    obtain ⟨D, hD⟩ : ∃ D, D = 2 * t := ⟨_, rfl⟩
    obtain ⟨q, hq⟩ : ∃ q, q = N1 / D := ⟨_, rfl⟩
    obtain ⟨lf, hlf⟩ : ∃ lf, lf = N1 % D := ⟨_, rfl⟩
    have b9 : q ≤ N1 := by rw [hq]; exact Nat.div_le_self _ _
    have b10 : lf < D := by rw [hlf]; exact Nat.mod_lt _ (by omega)
    have b11 : lf * P ≤ 2 * A := by
      have h1 : lf * P ≤ D * P := Nat.mul_le_mul_right P (by omega)
      rw [hD, Nat.mul_assoc] at h1
      omega
    obtain ⟨S, hS⟩ : ∃ S, S = t * P + q := ⟨_, rfl⟩
    obtain ⟨R, hR⟩ : ∃ R, R = lf * P + v := ⟨_, rfl⟩
    have hz := zimm A P h m v t k q lf S R hP d1 (by rw [hm]; exact Nat.mod_lt _ hP) (by rw [hv]; exact Nat.mod_lt _ hP) d2 hrt hk0 (by rw [hq, hlf, ← hD, ← hN1, Nat.mul_comm]; exact Nat.div_add_mod _ _) (by rw [← hD]; exact b10) hS hR
    have Hz : Hid ((q * q ≤ R → IsRt A S ∧ R - q * q = A - S * S) ∧ (R < q * q → 1 ≤ S ∧ IsRt A (S - 1) ∧ q * q ≤ R + S + (S - 1) ∧ R + S + (S - 1) - q * q = A - (S - 1) * (S - 1))) := hz
    clear hz
    have s1 : (dig A).length ≤ 1048576 := by omega
    have s2 : (dig h).length ≤ 16384 := Nat.le_trans (len32_mono b2) lA
    have z : ∀ x, x ≤ 16 * A → (dig x).length ≤ 1048576 := fun x hx => Nat.le_trans (sz hSm hK hx) (by omega)
    have sqq : (dig (q * q)).length ≤ 1048576 := by
      have e1 : len32 q ≤ 16385 := sz hSm hK (by omega)
      have e2 := mul_len q q 16385 e1 e1
      have e3 : (dig (q * q)).length = len32 (q * q) := rfl
      omega
    have hih := ih h hhA
    have hln := nlen_ p c (dig A) w hx (Wd_dig A) (by omega) hc0
    rw [val_dig] at hln
    rw [← ht, ← hk0] at hih
    obtain ⟨bl, hbl⟩ : ∃ bl, bl = blen A := ⟨_, rfl⟩
    obtain ⟨b1', hb1'⟩ : ∃ b1', b1' = bl - 1 := ⟨_, rfl⟩
    obtain ⟨l2, hl2⟩ : ∃ l2, l2 = 2 * l := ⟨_, rfl⟩
    rw [← hbl] at hln hB q3 hl
    obtain ⟨N, hN⟩ : ∃ N, N = (dig A).length := ⟨_, rfl⟩
    obtain ⟨f1, f2, f2b, f2c, f3, f4, lb, lb2⟩ := root_ints bl b1' l l2 hl hb1' hl2 hB (Nat.lt_of_le_of_lt (Nat.zero_le _) q3)
    have t0 : ¬ (N ≤ 2) := by rw [hN]; exact c2
    have t1 : ¬ ((N : Int) ≤ 2) := fun e => t0 (Int.ofNat_le.1 e)
    have ha : Hid (LsN w (.slice p N c) (dig A)) := ⟨p, c, by rw [hN], hx, hc0⟩
    rw [← hN] at hln ⊢
    have HK : Hid (Kp w w) := Kp.refl w
    have zA := root_sizes A P h m v t k N1 D q lf S R (len32 A) hSm hK b2 b3 b7 b8 (by rw [hk0]; exact Nat.sub_le _ _) (Nat.le_trans b5 b4) b6 b4 hN1 hD b9 b10 b11 hS hR (Nat.le_trans (by decide) hw3)
    have HZ : Hid (_ ∧ (dig (q * q)).length ≤ 1048576) := ⟨zA, sqq⟩
    have HE : Hid (h = A / 2 ^ l2 ∧ P = 2 ^ l ∧ m = A / P % P ∧ v = A % P ∧ N1 = k * P + m ∧ D = t * 2 ^ 1 ∧ q = N1 / D ∧ lf = N1 % D ∧ S = t * P + q ∧ R = lf * P + v ∧ l / 32 < (dig (A / P)).length ∧ l / 32 < (dig A).length ∧ 0 < D ∧ (dig h).length ≤ 16384 ∧ l ≤ 131072 ∧ l2 ≤ 262144) := ⟨by rw [hl2]; exact hh, hPe, hm, hv, hN1, by rw [hD, Nat.pow_one, Nat.mul_comm], hq, hlf, hS, hR, o1, o2, by rw [hD]; exact Nat.mul_pos (by decide) (Nat.lt_of_lt_of_le hP hPt), s2, lb, lb2⟩
    clear hx hc0 lA c2 hl q1 q2 q3 d1 d2 hSm hK hB hP hP2 hh ht hk0 hm hv hPe b1 b2 b3 b4 b5 b6 b7 b8 hhA o1 o2 hrt hPt hN1 hD hq hlf b9 b10 b11 hS hR s1 s2 z sqq hbl hb1' hl2 hN zA ih t0 lb2 hw3
    go_enter Tryz.func117, Tryz.ntmps117
    go_wp2_with fail
    refine hln.mono ?_; rintro e w' ⟨rfl, hw'⟩; obtain rfl := hw'.symm; clear hln
    have hc := loweredB (.slice p N c) A l2 w ha.out HZ.out.1.1 (by have := HE.out.2.2.2.2.2.2.2.2.2.2.2.2.2.2.2; omega)
    go_wp2_with fail
    refine hc.mono ?_
    rintro e w1 ⟨vlo, rfl, hn, hk⟩
    clear hc
    replace ha : Hid (LsN w1 (.slice p N c) (dig (A))) := ha.out.kp hk
    have hlo : Hid (LsN w1 vlo (dig (A / 2 ^ l2))) := hn.lsN
    replace HK : Hid (Kp w w1) := HK.out.trans hk
    clear hk hn
    replace hlo : Hid (LsN w1 vlo (dig (h))) := by have h9 := hlo.out; rw [← HE.out.1] at h9; exact h9
    obtain ⟨plo, clo, rfl, hAlo, hclo⟩ := hlo.out
    have hc := hih plo clo w1 hAlo hclo HE.out.2.2.2.2.2.2.2.2.2.2.2.2.2.1
    obtain ⟨Nh, hNh⟩ : ∃ Nh, Nh = (dig h).length := ⟨_, rfl⟩
    rw [← hNh] at hc ⊢
    clear hAlo hclo hih hlo hNh
    go_wp2_with fail
    refine hc.mono ?_
    rintro e w2 ⟨vv, rfl, ⟨p1, c1, p2, c2, rfl, hO1, hO2, _⟩, hk⟩
    clear hc
    have ht9 := hO1.lsN
    have hk9 := hO2.lsN
    obtain ⟨vt, hvt⟩ : ∃ vt, vt = Value.slice p1 (dig t).length c1 := ⟨_, rfl⟩
    obtain ⟨vk, hvk⟩ : ∃ vk, vk = Value.slice p2 (dig k).length c2 := ⟨_, rfl⟩
    rw [← hvt] at ht9 ⊢
    rw [← hvk] at hk9 ⊢
    replace ha : Hid (LsN w2 (.slice p N c) (dig A)) := ha.out.kp hk
    have ht : Hid (LsN w2 vt (dig t)) := ht9
    have hkk : Hid (LsN w2 vk (dig k)) := hk9
    replace HK : Hid (Kp w w2) := HK.out.trans hk
    clear hO1 hO2 ht9 hk9 hvt hvk hk
    have hc := raisedB vk k l w2 hkk.out HZ.out.1.2.2.1 (by have := HE.out.2.2.2.2.2.2.2.2.2.2.2.2.2.2.1; omega)
    go_wp2_with fail
    refine hc.mono ?_
    rintro e w3 ⟨vkp, rfl, hn, hk⟩
    clear hc
    replace ha : Hid (LsN w3 (.slice p N c) (dig (A))) := ha.out.kp hk
    replace ht : Hid (LsN w3 vt (dig (t))) := ht.out.kp hk
    replace hkk : Hid (LsN w3 vk (dig (k))) := hkk.out.kp hk
    have hkp : Hid (LsN w3 vkp (dig (k * 2 ^ l))) := hn.lsN
    replace HK : Hid (Kp w w3) := HK.out.trans hk
    clear hk hn
    replace hkp : Hid (LsN w3 vkp (dig (k * P))) := by have h9 := hkp.out; rw [← HE.out.2.1] at h9; exact h9
    have hc := loweredB (.slice p N c) A l w3 ha.out HZ.out.1.1 (by have := HE.out.2.2.2.2.2.2.2.2.2.2.2.2.2.2.1; omega)
    go_wp2_with fail
    refine hc.mono ?_
    rintro e w4 ⟨val, rfl, hn, hk⟩
    clear hc
    replace ha : Hid (LsN w4 (.slice p N c) (dig (A))) := ha.out.kp hk
    replace ht : Hid (LsN w4 vt (dig (t))) := ht.out.kp hk
    replace hkk : Hid (LsN w4 vk (dig (k))) := hkk.out.kp hk
    replace hkp : Hid (LsN w4 vkp (dig (k * P))) := hkp.out.kp hk
    have hal : Hid (LsN w4 val (dig (A / 2 ^ l))) := hn.lsN
    replace HK : Hid (Kp w w4) := HK.out.trans hk
    clear hk hn
    replace hal : Hid (LsN w4 val (dig (A / P))) := by have h9 := hal.out; rw [← HE.out.2.1] at h9; exact h9
    have hc := remB val (A / P) l w4 hal.out HZ.out.1.2.1 HE.out.2.2.2.2.2.2.2.2.2.2.1
    go_wp2_with fail
    refine hc.mono ?_
    rintro e w5 ⟨vm, rfl, hn, hk⟩
    clear hc
    replace ha : Hid (LsN w5 (.slice p N c) (dig (A))) := ha.out.kp hk
    replace ht : Hid (LsN w5 vt (dig (t))) := ht.out.kp hk
    replace hkk : Hid (LsN w5 vk (dig (k))) := hkk.out.kp hk
    replace hkp : Hid (LsN w5 vkp (dig (k * P))) := hkp.out.kp hk
    replace hal : Hid (LsN w5 val (dig (A / P))) := hal.out.kp hk
    have hm : Hid (LsN w5 vm (dig (A / P % 2 ^ l))) := hn.lsN
    replace HK : Hid (Kp w w5) := HK.out.trans hk
    clear hk hn
    replace hm : Hid (LsN w5 vm (dig (m))) := by have h9 := hm.out; rw [← HE.out.2.1, ← HE.out.2.2.1] at h9; exact h9
    have hc := sumB vkp vm (k * P) m w5 hkp.out hm.out HZ.out.1.2.2.2.1 HZ.out.1.2.2.2.2.1
    go_wp2_with fail
    refine hc.mono ?_
    rintro e w6 ⟨vn1, rfl, hn, hk⟩
    clear hc
    replace ha : Hid (LsN w6 (.slice p N c) (dig (A))) := ha.out.kp hk
    replace ht : Hid (LsN w6 vt (dig (t))) := ht.out.kp hk
    replace hkk : Hid (LsN w6 vk (dig (k))) := hkk.out.kp hk
    replace hkp : Hid (LsN w6 vkp (dig (k * P))) := hkp.out.kp hk
    replace hal : Hid (LsN w6 val (dig (A / P))) := hal.out.kp hk
    replace hm : Hid (LsN w6 vm (dig (m))) := hm.out.kp hk
    have hn1 : Hid (LsN w6 vn1 (dig (k * P + m))) := hn.lsN
    replace HK : Hid (Kp w w6) := HK.out.trans hk
    clear hk hn
    replace hn1 : Hid (LsN w6 vn1 (dig (N1))) := by have h9 := hn1.out; rw [← HE.out.2.2.2.2.1] at h9; exact h9
    have hc := raisedB vt t 1 w6 ht.out HZ.out.1.2.2.2.2.2.2.2.1 (by omega)
    go_wp2_with fail
    refine hc.mono ?_
    rintro e w7 ⟨vd, rfl, hn, hk⟩
    clear hc
    replace ha : Hid (LsN w7 (.slice p N c) (dig (A))) := ha.out.kp hk
    replace ht : Hid (LsN w7 vt (dig (t))) := ht.out.kp hk
    replace hkk : Hid (LsN w7 vk (dig (k))) := hkk.out.kp hk
    replace hkp : Hid (LsN w7 vkp (dig (k * P))) := hkp.out.kp hk
    replace hal : Hid (LsN w7 val (dig (A / P))) := hal.out.kp hk
    replace hm : Hid (LsN w7 vm (dig (m))) := hm.out.kp hk
    replace hn1 : Hid (LsN w7 vn1 (dig (N1))) := hn1.out.kp hk
    have hd : Hid (LsN w7 vd (dig (t * 2 ^ 1))) := hn.lsN
    replace HK : Hid (Kp w w7) := HK.out.trans hk
    clear hk hn
    replace hd : Hid (LsN w7 vd (dig (D))) := by have h9 := hd.out; rw [← HE.out.2.2.2.2.2.1] at h9; exact h9
    have hc := quoB vn1 vd N1 D w7 hn1.out hd.out HZ.out.1.2.2.2.2.2.1 HZ.out.1.2.2.2.2.2.2.1 HE.out.2.2.2.2.2.2.2.2.2.2.2.2.1
    go_wp2_with fail
    refine hc.mono ?_
    rintro e w8 ⟨vq, vlf, rfl, hnA, hnB, hk⟩
    clear hc
    replace ha : Hid (LsN w8 (.slice p N c) (dig (A))) := ha.out.kp hk
    replace ht : Hid (LsN w8 vt (dig (t))) := ht.out.kp hk
    replace hkk : Hid (LsN w8 vk (dig (k))) := hkk.out.kp hk
    replace hkp : Hid (LsN w8 vkp (dig (k * P))) := hkp.out.kp hk
    replace hal : Hid (LsN w8 val (dig (A / P))) := hal.out.kp hk
    replace hm : Hid (LsN w8 vm (dig (m))) := hm.out.kp hk
    replace hn1 : Hid (LsN w8 vn1 (dig (N1))) := hn1.out.kp hk
    replace hd : Hid (LsN w8 vd (dig (D))) := hd.out.kp hk
    have hq : Hid (LsN w8 vq (dig (N1 / D))) := hnA
    have hlf : Hid (LsN w8 vlf (dig (N1 % D))) := hnB
    replace HK : Hid (Kp w w8) := HK.out.trans hk
    clear hk hnA hnB
    replace hq : Hid (LsN w8 vq (dig (q))) := by have h9 := hq.out; rw [← HE.out.2.2.2.2.2.2.1] at h9; exact h9
    replace hlf : Hid (LsN w8 vlf (dig (lf))) := by have h9 := hlf.out; rw [← HE.out.2.2.2.2.2.2.2.1] at h9; exact h9
    clear hkk
    clear hkp
    clear hal
    clear hm
    clear hn1
    clear hd
    have hc := raisedB vt t l w8 ht.out HZ.out.1.2.2.2.2.2.2.2.1 (by have := HE.out.2.2.2.2.2.2.2.2.2.2.2.2.2.2.1; omega)
    go_wp2_with fail
    refine hc.mono ?_
    rintro e w9 ⟨vtp, rfl, hn, hk⟩
    clear hc
    replace ha : Hid (LsN w9 (.slice p N c) (dig (A))) := ha.out.kp hk
    replace ht : Hid (LsN w9 vt (dig (t))) := ht.out.kp hk
    replace hq : Hid (LsN w9 vq (dig (q))) := hq.out.kp hk
    replace hlf : Hid (LsN w9 vlf (dig (lf))) := hlf.out.kp hk
    have htp : Hid (LsN w9 vtp (dig (t * 2 ^ l))) := hn.lsN
    replace HK : Hid (Kp w w9) := HK.out.trans hk
    clear hk hn
    replace htp : Hid (LsN w9 vtp (dig (t * P))) := by have h9 := htp.out; rw [← HE.out.2.1] at h9; exact h9
    have hc := sumB vtp vq (t * P) q w9 htp.out hq.out HZ.out.1.2.2.2.2.2.2.2.2.1 HZ.out.1.2.2.2.2.2.2.2.2.2.1
    go_wp2_with fail
    refine hc.mono ?_
    rintro e w10 ⟨vs, rfl, hn, hk⟩
    clear hc
    replace ha : Hid (LsN w10 (.slice p N c) (dig (A))) := ha.out.kp hk
    replace ht : Hid (LsN w10 vt (dig (t))) := ht.out.kp hk
    replace hq : Hid (LsN w10 vq (dig (q))) := hq.out.kp hk
    replace hlf : Hid (LsN w10 vlf (dig (lf))) := hlf.out.kp hk
    replace htp : Hid (LsN w10 vtp (dig (t * P))) := htp.out.kp hk
    have hs : Hid (LsN w10 vs (dig (t * P + q))) := hn.lsN
    have Os : Hid (Own w10 w.heap.size vs (dig (t * P + q))) := hn.mono HK.out.size
    replace HK : Hid (Kp w w10) := HK.out.trans hk
    clear hk hn
    replace hs : Hid (LsN w10 vs (dig (S))) := by have h9 := hs.out; rw [← HE.out.2.2.2.2.2.2.2.2.1] at h9; exact h9
    replace Os : Hid (Own w10 w.heap.size vs (dig (S))) := by have h9 := Os.out; rw [← HE.out.2.2.2.2.2.2.2.2.1] at h9; exact h9
    have hc := raisedB vlf lf l w10 hlf.out HZ.out.1.2.2.2.2.2.2.2.2.2.2.1 (by have := HE.out.2.2.2.2.2.2.2.2.2.2.2.2.2.2.1; omega)
    go_wp2_with fail
    refine hc.mono ?_
    rintro e w11 ⟨vlp, rfl, hn, hk⟩
    clear hc
    replace ha : Hid (LsN w11 (.slice p N c) (dig (A))) := ha.out.kp hk
    replace ht : Hid (LsN w11 vt (dig (t))) := ht.out.kp hk
    replace hq : Hid (LsN w11 vq (dig (q))) := hq.out.kp hk
    replace hlf : Hid (LsN w11 vlf (dig (lf))) := hlf.out.kp hk
    replace htp : Hid (LsN w11 vtp (dig (t * P))) := htp.out.kp hk
    replace hs : Hid (LsN w11 vs (dig (S))) := hs.out.kp hk
    replace Os : Hid (Own w11 w.heap.size vs (dig (S))) := Os.out.kp hk
    have hlp : Hid (LsN w11 vlp (dig (lf * 2 ^ l))) := hn.lsN
    replace HK : Hid (Kp w w11) := HK.out.trans hk
    clear hk hn
    replace hlp : Hid (LsN w11 vlp (dig (lf * P))) := by have h9 := hlp.out; rw [← HE.out.2.1] at h9; exact h9
    have hc := remB (.slice p N c) A l w11 ha.out HZ.out.1.1 HE.out.2.2.2.2.2.2.2.2.2.2.2.1
    go_wp2_with fail
    refine hc.mono ?_
    rintro e w12 ⟨vv, rfl, hn, hk⟩
    clear hc
    replace ha : Hid (LsN w12 (.slice p N c) (dig (A))) := ha.out.kp hk
    replace ht : Hid (LsN w12 vt (dig (t))) := ht.out.kp hk
    replace hq : Hid (LsN w12 vq (dig (q))) := hq.out.kp hk
    replace hlf : Hid (LsN w12 vlf (dig (lf))) := hlf.out.kp hk
    replace htp : Hid (LsN w12 vtp (dig (t * P))) := htp.out.kp hk
    replace hs : Hid (LsN w12 vs (dig (S))) := hs.out.kp hk
    replace hlp : Hid (LsN w12 vlp (dig (lf * P))) := hlp.out.kp hk
    replace Os : Hid (Own w12 w.heap.size vs (dig (S))) := Os.out.kp hk
    have hv : Hid (LsN w12 vv (dig (A % 2 ^ l))) := hn.lsN
    replace HK : Hid (Kp w w12) := HK.out.trans hk
    clear hk hn
    replace hv : Hid (LsN w12 vv (dig (v))) := by have h9 := hv.out; rw [← HE.out.2.1, ← HE.out.2.2.2.1] at h9; exact h9
    have hc := sumB vlp vv (lf * P) v w12 hlp.out hv.out HZ.out.1.2.2.2.2.2.2.2.2.2.2.2.1 HZ.out.1.2.2.2.2.2.2.2.2.2.2.2.2.1
    go_wp2_with fail
    refine hc.mono ?_
    rintro e w13 ⟨vr, rfl, hn, hk⟩
    clear hc
    replace ha : Hid (LsN w13 (.slice p N c) (dig (A))) := ha.out.kp hk
    replace ht : Hid (LsN w13 vt (dig (t))) := ht.out.kp hk
    replace hq : Hid (LsN w13 vq (dig (q))) := hq.out.kp hk
    replace hlf : Hid (LsN w13 vlf (dig (lf))) := hlf.out.kp hk
    replace htp : Hid (LsN w13 vtp (dig (t * P))) := htp.out.kp hk
    replace hs : Hid (LsN w13 vs (dig (S))) := hs.out.kp hk
    replace hlp : Hid (LsN w13 vlp (dig (lf * P))) := hlp.out.kp hk
    replace hv : Hid (LsN w13 vv (dig (v))) := hv.out.kp hk
    replace Os : Hid (Own w13 w.heap.size vs (dig (S))) := Os.out.kp hk
    have hr : Hid (LsN w13 vr (dig (lf * P + v))) := hn.lsN
    replace HK : Hid (Kp w w13) := HK.out.trans hk
    clear hk hn
    replace hr : Hid (LsN w13 vr (dig (R))) := by have h9 := hr.out; rw [← HE.out.2.2.2.2.2.2.2.2.2.1] at h9; exact h9
    have hc := prodB vq vq q q w13 hq.out hq.out HZ.out.1.2.2.2.2.2.2.2.2.2.1 HZ.out.1.2.2.2.2.2.2.2.2.2.1
    go_wp2_with fail
    refine hc.mono ?_
    rintro e w14 ⟨vqq, rfl, hn, hk⟩
    clear hc
    replace ha : Hid (LsN w14 (.slice p N c) (dig (A))) := ha.out.kp hk
    replace ht : Hid (LsN w14 vt (dig (t))) := ht.out.kp hk
    replace hq : Hid (LsN w14 vq (dig (q))) := hq.out.kp hk
    replace hlf : Hid (LsN w14 vlf (dig (lf))) := hlf.out.kp hk
    replace htp : Hid (LsN w14 vtp (dig (t * P))) := htp.out.kp hk
    replace hs : Hid (LsN w14 vs (dig (S))) := hs.out.kp hk
    replace hlp : Hid (LsN w14 vlp (dig (lf * P))) := hlp.out.kp hk
    replace hv : Hid (LsN w14 vv (dig (v))) := hv.out.kp hk
    replace hr : Hid (LsN w14 vr (dig (R))) := hr.out.kp hk
    replace Os : Hid (Own w14 w.heap.size vs (dig (S))) := Os.out.kp hk
    have hqq : Hid (LsN w14 vqq (dig (q * q))) := hn.lsN
    replace HK : Hid (Kp w w14) := HK.out.trans hk
    clear hk hn
    clear ha
    clear ht
    clear hq
    clear hlf
    clear htp
    clear hlp
    clear hv
    obtain ⟨cc, hcc⟩ : ∃ cc, cc = cmpN R (q * q) := ⟨_, rfl⟩
    have hc := cmpB vr vqq R (q * q) w14 hr.out hqq.out HZ.out.1.2.2.2.2.2.2.2.2.2.2.2.2.2.1 HZ.out.2
    rw [← hcc] at hc
    have HC : Hid (cc = cmpN R (q * q)) := hcc
    clear hcc
    by_cases cr : R < q * q
    · have t3 : cc < 0 := by rw [HC.out, cmpN_lt cr]; omega
      have HX : Hid (1 ≤ S ∧ IsRt A (S - 1) ∧ q * q ≤ R + S + (S - 1) ∧ R + S + (S - 1) - q * q = A - (S - 1) * (S - 1)) := Hz.out.2 cr
      clear HC Hz cr
      go_wp2_with fail
      refine hc.mono ?_
      rintro e w15 ⟨rfl, hk⟩
      clear hc
      replace hs : Hid (LsN w15 vs (dig (S))) := hs.out.kp hk
      replace hr : Hid (LsN w15 vr (dig (R))) := hr.out.kp hk
      replace hqq : Hid (LsN w15 vqq (dig (q * q))) := hqq.out.kp hk
      replace Os : Hid (Own w15 w.heap.size vs (dig (S))) := Os.out.kp hk
      replace HK : Hid (Kp w w15) := HK.out.trans hk
      clear hk
      have hc := sumB vr vs R S w15 hr.out hs.out HZ.out.1.2.2.2.2.2.2.2.2.2.2.2.2.2.1 HZ.out.1.2.2.2.2.2.2.2.2.2.2.2.2.2.2.1
      go_wp2_with fail
      refine hc.mono ?_
      rintro e w16 ⟨vr2, rfl, hn, hk⟩
      clear hc
      replace hs : Hid (LsN w16 vs (dig (S))) := hs.out.kp hk
      replace hr : Hid (LsN w16 vr (dig (R))) := hr.out.kp hk
      replace hqq : Hid (LsN w16 vqq (dig (q * q))) := hqq.out.kp hk
      replace Os : Hid (Own w16 w.heap.size vs (dig (S))) := Os.out.kp hk
      have hr2 : Hid (LsN w16 vr2 (dig (R + S))) := hn.lsN
      replace HK : Hid (Kp w w16) := HK.out.trans hk
      clear hk
      clear hn
      have hc := nsmall_ 1 (by omega) w16
      go_wp2_with fail
      refine hc.mono ?_
      rintro e w17 ⟨vo, rfl, hn, hk⟩
      clear hc
      replace hs : Hid (LsN w17 vs (dig (S))) := hs.out.kp hk
      replace hr : Hid (LsN w17 vr (dig (R))) := hr.out.kp hk
      replace hqq : Hid (LsN w17 vqq (dig (q * q))) := hqq.out.kp hk
      replace hr2 : Hid (LsN w17 vr2 (dig (R + S))) := hr2.out.kp hk
      clear Os
      have ho : Hid (LsN w17 vo (dig 1)) := hn.lsN
      replace HK : Hid (Kp w w17) := HK.out.trans hk
      clear hk hn
      have hc := diffB vs vo S 1 w17 hs.out ho.out HZ.out.1.2.2.2.2.2.2.2.2.2.2.2.2.2.2.1 HZ.out.1.2.2.2.2.2.2.2.2.2.2.2.2.2.2.2.2.2.2 HX.out.1
      go_wp2_with fail
      refine hc.mono ?_
      rintro e w18 ⟨vs2, rfl, hn, hk⟩
      clear hc
      replace hs : Hid (LsN w18 vs (dig (S))) := hs.out.kp hk
      replace hr : Hid (LsN w18 vr (dig (R))) := hr.out.kp hk
      replace hqq : Hid (LsN w18 vqq (dig (q * q))) := hqq.out.kp hk
      replace hr2 : Hid (LsN w18 vr2 (dig (R + S))) := hr2.out.kp hk
      replace ho : Hid (LsN w18 vo (dig (1))) := ho.out.kp hk
      have hs2 : Hid (LsN w18 vs2 (dig (S - 1))) := hn.lsN
      have Os2 : Hid (Own w18 w.heap.size vs2 (dig (S - 1))) := hn.mono HK.out.size
      replace HK : Hid (Kp w w18) := HK.out.trans hk
      clear hk
      clear hn
      have hc := sumB vr2 vs2 (R + S) (S - 1) w18 hr2.out hs2.out HZ.out.1.2.2.2.2.2.2.2.2.2.2.2.2.2.2.2.1 HZ.out.1.2.2.2.2.2.2.2.2.2.2.2.2.2.2.2.2.1
      go_wp2_with fail
      refine hc.mono ?_
      rintro e w19 ⟨vr3, rfl, hn, hk⟩
      clear hc
      replace hs : Hid (LsN w19 vs (dig (S))) := hs.out.kp hk
      replace hr : Hid (LsN w19 vr (dig (R))) := hr.out.kp hk
      replace hqq : Hid (LsN w19 vqq (dig (q * q))) := hqq.out.kp hk
      replace hr2 : Hid (LsN w19 vr2 (dig (R + S))) := hr2.out.kp hk
      replace ho : Hid (LsN w19 vo (dig (1))) := ho.out.kp hk
      replace hs2 : Hid (LsN w19 vs2 (dig (S - 1))) := hs2.out.kp hk
      replace Os2 : Hid (Own w19 w.heap.size vs2 (dig (S - 1))) := Os2.out.kp hk
      have hr3 : Hid (LsN w19 vr3 (dig (R + S + (S - 1)))) := hn.lsN
      replace HK : Hid (Kp w w19) := HK.out.trans hk
      clear hk
      clear hn
      have hc := diffB vr3 vqq (R + S + (S - 1)) (q * q) w19 hr3.out hqq.out HZ.out.1.2.2.2.2.2.2.2.2.2.2.2.2.2.2.2.2.2.1 HZ.out.2 HX.out.2.2.1
      go_wp2_with fail
      refine hc.mono ?_
      rintro e wz ⟨vz, rfl, hn, hk⟩
      clear hc
      obtain ⟨ps, cs, hse, hps⟩ := Os2.out.len
      obtain ⟨pz, cz, hze, hpz⟩ := hn.len
      have hTwo : Two wz w.heap.size (dig (S - 1)) (dig (R + S + (S - 1) - q * q)) (.tuple #[vs2, vz]) := by
        refine ⟨ps, cs, pz, cz, by rw [hse, hze], by rw [← hse]; exact Os2.out.kp hk, by rw [← hze]; exact hn.mono HK.out.size, fun g e e2 => ?_⟩
        subst e e2
        have a1 := Os2.out
        rw [hse] at a1
        rw [hze] at hn
        have a2 := a1.above.2
        have a3 := hn.above.1
        omega
      have HY : Hid (Two wz w.heap.size (dig (rtN A)) (dig (A - rtN A * rtN A)) (.tuple #[vs2, vz]) ∧ Kp w wz) := by
        have hi : IsRt A (S - 1) ∧ R + S + (S - 1) - q * q = A - (S - 1) * (S - 1) := ⟨HX.out.2.1, HX.out.2.2.2⟩
        rw [← hi.1.eq, ← hi.2]
        exact ⟨hTwo, HK.out.trans hk⟩
      clear hn hk hTwo hse hze hps hpz
      go_wp2
      exact bodyPost_ret (v := .tuple #[vs2, vz]) (by simp [results, Tryz.results117, go_sem]) rfl ⟨_, rfl, HY.out.1, HY.out.2⟩
    · have t3 : ¬ (cc < 0) := by rw [HC.out]; unfold cmpN; rw [if_neg cr]; split <;> omega
      have HX : Hid (IsRt A S ∧ R - q * q = A - S * S) := Hz.out.1 (by omega)
      have cr : Hid (¬ R < q * q) := cr
      clear HC Hz
      go_wp2_with fail
      refine hc.mono ?_
      rintro e w15 ⟨rfl, hk⟩
      clear hc
      replace hs : Hid (LsN w15 vs (dig (S))) := hs.out.kp hk
      replace hr : Hid (LsN w15 vr (dig (R))) := hr.out.kp hk
      replace hqq : Hid (LsN w15 vqq (dig (q * q))) := hqq.out.kp hk
      replace Os : Hid (Own w15 w.heap.size vs (dig (S))) := Os.out.kp hk
      replace HK : Hid (Kp w w15) := HK.out.trans hk
      clear hk
      have hc := diffB vr vqq (R) (q * q) w15 hr.out hqq.out HZ.out.1.2.2.2.2.2.2.2.2.2.2.2.2.2.1 HZ.out.2 (Nat.le_of_not_lt cr.out)
      go_wp2_with fail
      refine hc.mono ?_
      rintro e wz ⟨vz, rfl, hn, hk⟩
      clear hc
      obtain ⟨ps, cs, hse, hps⟩ := Os.out.len
      obtain ⟨pz, cz, hze, hpz⟩ := hn.len
      have hTwo : Two wz w.heap.size (dig (S)) (dig (R - q * q)) (.tuple #[vs, vz]) := by
        refine ⟨ps, cs, pz, cz, by rw [hse, hze], by rw [← hse]; exact Os.out.kp hk, by rw [← hze]; exact hn.mono HK.out.size, fun g e e2 => ?_⟩
        subst e e2
        have a1 := Os.out
        rw [hse] at a1
        rw [hze] at hn
        have a2 := a1.above.2
        have a3 := hn.above.1
        omega
      have HY : Hid (Two wz w.heap.size (dig (rtN A)) (dig (A - rtN A * rtN A)) (.tuple #[vs, vz]) ∧ Kp w wz) := by
        have hi : IsRt A (S) ∧ R - q * q = A - (S) * (S) := HX.out
        rw [← hi.1.eq, ← hi.2]
        exact ⟨hTwo, HK.out.trans hk⟩
      clear hn hk hTwo hse hze hps hpz
      go_wp2
      exact bodyPost_ret (v := .tuple #[vs, vz]) (by simp [results, Tryz.results117, go_sem]) rfl ⟨_, rfl, HY.out.1, HY.out.2⟩
end Go.Proofs.YtkheefoabcibkaaGreatDoor
namespace Go.Proofs.YtkheefoabcibkaaGreatDoor
open Go.RowKit
set_option maxRecDepth 20000 in
theorem nroot_ (p : Option Addr) (c : Nat) (xs : List Int) (w : World) (hx : Arr w p xs) (hwx : Wd xs) (lx : xs.length ≤ 1048576) (hc : xs.length ≤ c) :
    Calls Tryz.prog 88 #[.slice p xs.length c] w fun e w' => ∃ v, e = .returned (.tuple #[v, .bool (rootN (val xs)).2.1, .int .i64 (rootN (val xs)).2.2]) ∧ Own w' w.heap.size v (rootN (val xs)).1 ∧ Kp w w' :=
  nroot_of p c xs w hx hwx lx hc (fun hl => by
    have e1 : nz xs = dig (val xs) := nz_dig xs hwx
    have hA2 : Arr w p (dig (val xs)) := by rw [← e1]; exact hx.take _
    have e2 : tl xs = (dig (val xs)).length := tl_len xs hwx
    have e3 := tl_le xs
    rw [e2]
    exact root_ (val xs) p c w hA2 (by omega) (by omega))
end Go.Proofs.YtkheefoabcibkaaGreatDoor
namespace Go.Proofs.YtkheefoabcibkaaGreatDoor
open Go.RowKit
theorem rootN_ok {a s : Nat} (ha : len32 a ≤ 16384) (hs : IsRt a s) : rootN a = (dig s, decide (a = s * s), 0) := by
  have := hs.eq
  subst this
  unfold rootN
  rw [if_neg (by omega)]
end Go.Proofs.YtkheefoabcibkaaGreatDoor
namespace Go.Proofs.YtkheefoabcibkaaGreatDoor
open Go.RowKit
set_option maxRecDepth 20000 in
set_option maxHeartbeats 1000000 in
theorem squareRoot_ (d : Int) (s : Bool) (a : Nat) (ea : Int) (va : Value) (w : World) (hQ : Fq.Tab w) (hd1 : -9223372036854775808 ≤ d) (hd2 : d < 9223372036854775808) (ha : Ls w va (dig a)) (la : a < 9007199254740992) (za : a ≠ 0) (ea1 : -1074 ≤ ea) (ea2 : ea ≤ 2048) (A : Nat) (hA : a * 2 ^ (ea + 1074).toNat = A) :
    Calls Tryz.prog 65 #[.int .i64 d, .agg #[.bool s, va, .int .i64 ea]] w fun e w' => e = .returned (.float .f64 (rootW d A)) ∧ Kp w w' := by
  obtain ⟨u0, hu0⟩ : ∃ u0 : Int, u0 = 107 - (blen a : Int) := ⟨_, rfl⟩
  obtain ⟨up, hup⟩ : ∃ up : Int, up = u0 + (ea - u0) % 2 := ⟨_, rfl⟩
  obtain ⟨ex, hex⟩ : ∃ ex : Int, ex = (ea - up) / 2 := ⟨_, rfl⟩
  obtain ⟨b1, b2, b3⟩ := blen_spec a za
  have ba : blen a ≤ 53 := by rw [blen_le_iff, show (2 : Nat) ^ 53 = 9007199254740992 from by decide]; exact la
  obtain ⟨N, hN⟩ : ∃ N, N = a * 2 ^ up.toNat := ⟨_, rfl⟩
  obtain ⟨h, hh⟩ : ∃ h, h = rtN N := ⟨_, rfl⟩
  have hr : IsRt N h := by rw [hh]; exact rtN_is N
  have nl : 81129638414606681695789005144064 ≤ N := by
    have g : 2 ^ (blen a - 1) * 2 ^ up.toNat ≤ N := by rw [hN]; exact Nat.mul_le_mul_right _ b1
    rw [← Nat.pow_add] at g
    have g2 : 2 ^ 106 ≤ 2 ^ (blen a - 1 + up.toNat) := Nat.pow_le_pow_right (by decide) (by omega)
    rw [show (2 : Nat) ^ 106 = 81129638414606681695789005144064 from by decide] at g2
    omega
  have nu : N < 324518553658426726783156020576256 := by
    have g : N < 2 ^ blen a * 2 ^ up.toNat := by rw [hN]; exact Nat.mul_lt_mul_of_pos_right b2 (Nat.two_pow_pos _)
    rw [← Nat.pow_add] at g
    have g2 : 2 ^ (blen a + up.toNat) ≤ 2 ^ 108 := Nat.pow_le_pow_right (by decide) (by omega)
    rw [show (2 : Nat) ^ 108 = 324518553658426726783156020576256 from by decide] at g2
    omega
  have hl : 9007199254740992 ≤ h := by
    have g : 9007199254740992 * 9007199254740992 < (h + 1) * (h + 1) := by have := hr.2; omega
    have := sq_lt_sq g
    omega
  have hu : h < 18014398509481984 := sq_lt_sq (by have := hr.1; omega)
  have nb : blen N ≤ 108 := by rw [blen_le_iff, show (2 : Nat) ^ 108 = 324518553658426726783156020576256 from by decide]; exact nu
  have ln : len32 N ≤ 16384 := dlen N 16384 (by omega)
  have hb54 : blen h ≤ 54 := by rw [blen_le_iff, show (2 : Nat) ^ 54 = 18014398509481984 from by decide]; exact hu
  have lh2 : len32 h ≤ 2 := dlen h 2 (by omega)
  obtain ⟨sq, hsq⟩ : ∃ sq : Bool, sq = decide (N = h * h) := ⟨_, rfl⟩
  obtain ⟨H, hH⟩ : ∃ H, H = 2 * h + (if (!sq) = true then 1 else 0) := ⟨_, rfl⟩
  have hH2 : H = 2 * h + (if h * h = N then 0 else 1) := by
    rw [hH, hsq]
    by_cases c : h * h = N
    · rw [if_pos c, decide_eq_true c.symm]; rfl
    · rw [if_neg c, decide_eq_false (fun e => c e.symm)]; rfl
  obtain ⟨t, ht⟩ : ∃ t, t = (ex + 1073).toNat := ⟨_, rfl⟩
  have hAN : A * 4 ^ 536 = N * 4 ^ t := by
    obtain ⟨x, hx⟩ : ∃ x, x = 536 := ⟨_, rfl⟩
    rw [← hA, hN, ← hx, pow4, pow4, Nat.mul_assoc, Nat.mul_assoc, ← Nat.pow_add, ← Nat.pow_add, ← Nat.pow_add, ← Nat.pow_add]
    congr 2
    omega
  have hans : pW 9223372036854775808 false (finU 53 2098 9218868437227405311 9218868437227405312 (dirN false d) (rV (dirN false d) 53 H 1 (ex - 1 + 1074))) = rootW d A := by
    have hz : rtH A ≠ 0 := fun h0 => by
      have g := rt_H A N h t hAN hr hl 0
      rw [h0, ← hH2] at g
      have g2 := (rn_nr (H * 2 ^ t)).low
      have g3 := (rn_nr (H * 2 ^ t)).near
      have g4 := (rn_nr (H * 2 ^ t)).lt
      have g5 : rU 0 53 0 1 = 0 := by
        have h9 := rV_zero9 0 0
        unfold rV at h9
        simpa using h9
      rw [← g, g5] at g3
      have hp := Nat.two_pow_pos t
      have g6 : 1 ≤ H * 2 ^ t := Nat.mul_pos (by omega) hp
      rw [Int.natAbs_natCast] at g2
      omega
    unfold rootW sumW
    rw [if_neg (by omega), show decide (((rtH A : Nat) : Int) < 0) = false from decide_eq_false (by omega), Int.natAbs_natCast, rt_H A N h t hAN hr hl, ← hH2]
    have e : ∀ dd : Int, rV dd 53 H 1 (ex - 1 + 1074) = rU dd 53 (H * 2 ^ t) 1 := fun dd => by
      unfold rV
      rw [show (ex - 1 + 1074).toNat = t from by omega, show (-(ex - 1 + 1074)).toNat = 0 from by omega, Nat.pow_zero, Nat.mul_one]
    rw [e]
    rfl
  obtain ⟨Z, hZ⟩ : ∃ Z, Z = rootW d A := ⟨_, rfl⟩
  rw [← hZ] at hans ⊢
  have hls0 := ha
  obtain ⟨pa, ca, rfl, har, hca⟩ := ha
  obtain ⟨La, hLa⟩ : ∃ La, La = (dig a).length := ⟨_, rfl⟩
  rw [← hLa] at hls0 ⊢
  obtain ⟨B, hB⟩ : ∃ B, B = w.heap.size := ⟨_, rfl⟩
  obtain ⟨w0, hw0⟩ : ∃ w0, w0 = w.alloc (.cells #[.bool s, .slice pa La ca, .int .i64 ea] 65) := ⟨_, rfl⟩
  have hk9 : Kp w w0 := by rw [hw0]; exact (Kp.refl w).alloc _
  have x0 : w0.cell? ⟨B, 0, none⟩ = some (.bool s) := by rw [hw0, hB]; simp [go_sem]
  have x1 : w0.cell? ⟨B, 1, none⟩ = some (.slice pa La ca) := by rw [hw0, hB]; simp [go_sem]
  have x2 : w0.cell? ⟨B, 2, none⟩ = some (.int .i64 ea) := by rw [hw0, hB]; simp [go_sem]
  have h1 := stretched_ s a ea (.slice pa La ca) w0 (hls0.kp hk9) la za ea1 ea2 u0 up ex hu0 hup hex
  rw [← hN] at h1
  have HR : Hid (∀ (v : Value) (w1 : World), Ls w1 v (dig N) → Calls Tryz.prog 88 #[v] w1 fun e w' => ∃ v', e = .returned (.tuple #[v', .bool sq, .int .i64 0]) ∧ Ls w' v' (dig h) ∧ Kp w1 w') := fun v w1 ⟨p, c, e, ar, ll⟩ => by
    subst e
    have g := nroot_ p c (dig N) w1 ar (Wd_dig _) (by change len32 N ≤ _; omega) ll
    rw [val_dig, rootN_ok ln hr, ← hsq] at g
    exact g.mono fun e w' ⟨v', q1, q2, q3⟩ => ⟨v', q1, q2.ls, q3⟩
  have HWd : Hid (∀ (v : Value) (w1 : World), Ls w1 v (dig h) → Calls Tryz.prog 89 #[v] w1 fun e w' => e = .returned (.tuple #[.int .u64 (h : Int), .bool true]) ∧ w' = w1) := fun v w1 ⟨p, c, e, ar, ll⟩ => by
    subst e
    have g := nword_ p c (dig h) w1 ar (Wd_dig _) (by change len32 h ≤ _; omega) ll
    rw [val_dig, show wordN h = (h, true) from by unfold wordN; rw [if_neg (by omega)]] at g
    exact g
  have hmk := fun w1 => marked_ h (!sq) w1 (by omega)
  rw [← hH] at hmk
  have hrn := fun w1 (k : Kp w w1) => prndD_ d false H (ex - 1) w1 (Fq.Tab.grown hQ k) hd1 hd2 (by rw [hH2]; split <;> omega) (by omega) (by omega)
  rw [hans] at hrn
  have we : wrap64 (ex - 1) = ex - 1 := w64x _ (by omega) (by omega)
  have HW : Hid (w0 = w.alloc (.cells #[.bool s, .slice pa La ca, .int .i64 ea] 65) ∧ B = w.heap.size ∧ Kp w w0) := ⟨hw0, hB, hk9⟩
  have HX : Hid (-2000 ≤ ex ∧ ex ≤ 2000) := (by omega : -2000 ≤ ex ∧ ex ≤ 2000)
  clear hw0 hB hk9 har hca hLa la za ea1 ea2 hA hu0 hup hex b1 b2 b3 ba hN hh hr nl nu hl hu nb ln hb54 lh2 hsq hH hH2 ht hAN hans hZ hQ hd1 hd2 hls0
  go_enter Tryz.func65, Tryz.ntmps65
  go_wp2_with fail
  rw [← HW.out.2.1]
  try rw [← HW.out.1]
  try go_wp2_with fail
  refine h1.mono ?_; rintro e w1 ⟨v, rfl, hls, k1⟩
  have h2 := HR.out v w1 hls
  have k01 := HW.out.2.2.trans k1
  clear h1 HR hls k1 x0 x1 x2
  go_wp2_with fail
  refine h2.mono ?_; rintro e w2 ⟨v', rfl, hls, k2⟩
  have h3 := HWd.out v' w2 hls
  have k02 := k01.trans k2
  clear h2 HWd hls k01 k2
  go_wp2_with fail
  refine h3.mono ?_; rintro e w' ⟨rfl, hw'⟩; obtain rfl := hw'.symm; clear hw' h3
  have h4 := hmk w2
  clear hmk
  go_wp2_with fail
  refine h4.mono ?_; rintro e w' ⟨rfl, hw'⟩; obtain rfl := hw'.symm; clear hw' h4
  have h5 := hrn w2 k02
  clear hrn
  go_wp2_with fail
  refine h5.mono ?_; rintro e w3 ⟨rfl, k3⟩
  have k03 := k02.trans k3
  clear h5 k02 k3
  go_wp2
  exact bodyPost_ret (v := .float .f64 Z) (by simp [results, Tryz.results65, go_sem]) rfl ⟨rfl, k03⟩
end Go.Proofs.YtkheefoabcibkaaGreatDoor
namespace Go.Proofs.YtkheefoabcibkaaGreatDoor
open Go.RowKit
theorem ord_neg9 (n : Bool) (m : Nat) (hm : m ≤ 9218868437227405312) (z : m ≠ 0) : (FloatKind.f64.format.order (Fq.wD n m) 0 == some .lt) = n := by
  have hz : (0 : Nat) = Fq.wD false 0 := rfl
  have hord : FloatKind.f64.format.order (Fq.wD n m) 0 = some (compare (Fq.plz n m) 0) := by
    rw [hz, Fq.ordD n false m 0 hm (by decide)]; rfl
  rw [hord]
  cases n
  · rw [Int.compare_eq_gt.2 (by unfold Fq.plz; simp; omega)]; rfl
  · rw [Int.compare_eq_lt.2 (by unfold Fq.plz; simp; omega)]; rfl
set_option maxRecDepth 20000 in
set_option maxHeartbeats 1000000 in
theorem psqrtQ_ (d : Int) (m : Nat) (c1 : 2580562586483294208 ≤ m ∧ m ≤ 6633802251116740608) (w : World) :
    Calls Tryz.prog 38 #[.int .i64 d, .float .f64 (Fq.wD false m)] w fun e w' => e = .returned (.float .f64 (rootW d (Fq.vV Ieee.double m))) ∧ Kp w w' := by
  have h1 := mild_ false m (by omega) w
  rw [decide_eq_true c1] at h1
  have o1 := ord_neg9 false m (by omega) (by omega)
  obtain ⟨V, o, r, ro, K, hV, h3, r0, r8, q0, q1, g1, g2, K1, K2, kV⟩ := twoRoot_ m c1
  have h4 := steppedG_ d V false o false r ro K K1 K2 kV r0 r8 q0 q1 g1 g2
  rw [show sumW d V = rootW d (Fq.vV Ieee.double m) from by rw [hV]; rfl] at h4
  obtain ⟨X, hX⟩ : ∃ X, X = Fq.wD false m := ⟨_, rfl⟩
  obtain ⟨Z, hZ⟩ : ∃ Z, Z = rootW d (Fq.vV Ieee.double m) := ⟨_, rfl⟩
  obtain ⟨N, hN⟩ : ∃ N, N = Fq.wD false r := ⟨_, rfl⟩
  obtain ⟨O, hO⟩ : ∃ O, O = Fq.wD o ro := ⟨_, rfl⟩
  rw [← hX] at h1 o1
  rw [← hX, ← hN, ← hO] at h3
  rw [← hN, ← hO, ← hZ] at h4
  rw [← hX, ← hZ]
  clear hX hZ hN hO c1 r0 r8 q0 q1 g1 g2 K1 K2 kV hV
  go_enter Tryz.func38, Tryz.ntmps38
  go_wp2
  refine wp_scope_straight ?_
  go_wp2_with fail
  refine h1.mono ?_; rintro e w' ⟨rfl, hw'⟩; obtain rfl := hw'.symm; clear hw' h1
  have h5 := h3 w
  clear h3
  go_wp2_with fail
  refine h5.mono ?_; rintro e w' ⟨rfl, hw'⟩; obtain rfl := hw'.symm; clear hw' h5
  have h6 := h4 w
  clear h4
  go_wp2_with fail
  refine h6.mono ?_; rintro e w1 ⟨rfl, k1⟩
  clear h6
  go_wp2
  try rw [Exit.noGoto_ret]
  exact bodyPost_ret (v := .float .f64 Z) (by simp [results, Tryz.results38, go_sem]) rfl ⟨rfl, k1⟩
set_option maxRecDepth 20000 in
set_option maxHeartbeats 1000000 in
theorem psqrtE_ (d : Int) (m : Nat) (hm : m < 9218868437227405312) (z : m ≠ 0) (ct : ¬ (2580562586483294208 ≤ m ∧ m ≤ 6633802251116740608)) (w : World) (hQ : Fq.Tab w) (hd1 : -9223372036854775808 ≤ d) (hd2 : d < 9223372036854775808) :
    Calls Tryz.prog 38 #[.int .i64 d, .float .f64 (Fq.wD false m)] w fun e w' => e = .returned (.float .f64 (rootW d (Fq.vV Ieee.double m))) ∧ Kp w w' := by
  have h1 := mild_ false m (by omega) w
  have g1 := finite_ false m (by omega) w
  rw [decide_eq_true hm] at g1
  have o1 := ord_neg9 false m (by omega) z
  have o2 := Fq.eqzD false m (by omega)
  rw [show (m == 0) = false from by simp [z]] at o2
  obtain ⟨a, ea, a1, a2, a3, a4, ta⟩ := take_ false m hm
  rw [show (false && !(m == 0)) = false from rfl] at ta
  have za : a ≠ 0 := fun h => by rw [h, Nat.zero_mul] at a1; exact z ((vV_zero m).1 a1.symm)
  have hp : ∀ (va : Value) (w1 : World), Kp w w1 → Ls w1 va (dig a) → Calls Tryz.prog 65 #[.int .i64 d, .agg #[.bool false, va, .int .i64 ea]] w1 fun e w' => e = .returned (.float .f64 (rootW d (Fq.vV Ieee.double m))) ∧ Kp w1 w' := fun va w1 k l => squareRoot_ d false a ea va w1 (Fq.Tab.grown hQ k) hd1 hd2 l a4 za a2 a3 _ a1
  have ta1 := ta w hQ
  obtain ⟨X, hX⟩ : ∃ X, X = Fq.wD false m := ⟨_, rfl⟩
  obtain ⟨Z, hZ⟩ : ∃ Z, Z = rootW d (Fq.vV Ieee.double m) := ⟨_, rfl⟩
  rw [← hX] at h1 g1 o1 o2 ta1
  rw [← hZ] at hp
  rw [← hX, ← hZ]
  have HT : Hid (2580562586483294208 ≤ m ∧ m ≤ 6633802251116740608 → false = true) := fun h => absurd h ct
  clear hX hZ a1 a2 a3 a4 ta hQ hd1 hd2 ct hm z za
  go_enter Tryz.func38, Tryz.ntmps38
  go_wp2
  refine wp_scope_jumps 0 (fun a' w' => w' = w ∧ ∃ u2 u3 u4 u5 u6 u7 u8 u9 u10 u11 u12 u13 u14 u15 u16 u17 u18 u19 u20 u21 u22 u23 u24 u25 u26 u27 u28 u29 u30 u31 u32 u33 u34 u35 u36 : Value, a' = ⟨#[.int .i64 d, .float .f64 X, u2, u3, u4, u5, u6, u7, u8, u9, u10, u11, u12, u13, u14, u15, u16, u17, u18, u19, u20, u21, u22, u23, u24, u25, u26, u27, u28, u29, u30, u31, u32, u33, u34, u35, u36], []⟩) (fun _ _ => 0) rfl ?_ ?_
  · clear g1 ta1 hp o2
    by_cases c1 : 2580562586483294208 ≤ m ∧ m ≤ 6633802251116740608
    · rw [decide_eq_true c1] at h1
      replace o1 := o1.trans (HT.out c1)
      clear c1 HT
      go_wp2_with fail
      refine h1.mono ?_; rintro e w' ⟨rfl, hw'⟩; obtain rfl := hw'.symm; clear hw' h1
      go_wp2_with fail
      go_step3
      exact ⟨rfl, rfl, _, _, _, _, _, _, _, _, _, _, _, _, _, _, _, _, _, _, _, _, _, _, _, _, _, _, _, _, _, _, _, _, _, _, _, rfl⟩
    · rw [decide_eq_false c1] at h1
      clear c1 HT o1
      go_wp2_with fail
      refine h1.mono ?_; rintro e w' ⟨rfl, hw'⟩; obtain rfl := hw'.symm; clear hw' h1
      go_wp2_with fail
      go_step3
      exact ⟨rfl, rfl, _, _, _, _, _, _, _, _, _, _, _, _, _, _, _, _, _, _, _, _, _, _, _, _, _, _, _, _, _, _, _, _, _, _, _, rfl⟩
  · rintro a' w' ⟨rfl, u2, u3, u4, u5, u6, u7, u8, u9, u10, u11, u12, u13, u14, u15, u16, u17, u18, u19, u20, u21, u22, u23, u24, u25, u26, u27, u28, u29, u30, u31, u32, u33, u34, u35, u36, rfl⟩
    clear h1 HT
    go_wp2_with fail
    refine g1.mono ?_; rintro e w9 ⟨rfl, hw'⟩; obtain rfl := hw'.symm; clear hw' g1
    go_wp2_with fail
    refine ta1.mono ?_; rintro e w1 ⟨va, rfl, lva, k1⟩
    have hp1 := hp va w1 k1 lva
    clear ta1 hp lva
    go_wp2_with fail
    refine hp1.mono ?_; rintro e w2 ⟨rfl, k2⟩
    have k02 := k1.trans k2
    clear hp1 k1 k2
    go_wp2
    try simp only [Exit.jump]
    exact bodyPost_ret (v := .float .f64 Z) (by simp [results, Tryz.results38, go_sem]) rfl ⟨rfl, k02⟩
end Go.Proofs.YtkheefoabcibkaaGreatDoor
namespace Go.Proofs.YtkheefoabcibkaaGreatDoor
open Go.RowKit
theorem sqrt_inf : FloatKind.f64.format.sqrt (Fq.wD false 9218868437227405312) = some (Fq.wD false 9218868437227405312) := by
  show Ieee.double.sqrt _ = _
  unfold Ieee.Format.sqrt
  rw [infD9]
  exact congrArg some (wrI9 false)
theorem sqrt_zero (n : Bool) : FloatKind.f64.format.sqrt (Fq.wD n 0) = some (Fq.wD n 0) := by
  show Ieee.double.sqrt _ = _
  unfold Ieee.Format.sqrt
  obtain ⟨a, e, he, ha⟩ := finD9 n 0 (by decide)
  have a0 : a = 0 := ha.2 rfl
  subst a0
  rw [he]
  unfold Ieee.Datum.root
  simp only [if_true, Option.map_some]
  unfold Ieee.Format.write Ieee.Format.nearest
  simp only [if_true]
  rw [wdD9]
set_option maxRecDepth 20000 in
set_option maxHeartbeats 1000000 in
theorem psqrtP_ (d : Int) (n : Bool) (m : Nat) (hm : m < 9223372036854775808) (hi : ¬ (n = false ∧ m < 9218868437227405312 ∧ m ≠ 0)) (w w9 : World) (RR R2 : Nat) (hs : Calls Tryz.prog 64 #[.float .f64 (Fq.wD n m)] w fun e w' => e = .returned (.float .f64 RR) ∧ w' = w9) (hk : Kp w w9) (hpl : Calls Tryz.prog 61 #[.float .f64 RR] w9 fun e w' => e = .returned (.float .f64 R2) ∧ w' = w9) :
    Calls Tryz.prog 38 #[.int .i64 d, .float .f64 (Fq.wD n m)] w fun e w' => e = .returned (.float .f64 R2) ∧ Kp w w' := by
  have h1 := mild_ n m hm w
  have g1 := finite_ n m hm w
  have o1 : m ≠ 0 → m ≤ 9218868437227405312 → (FloatKind.f64.format.order (Fq.wD n m) 0 == some .lt) = n := fun z h => ord_neg9 n m h z
  have o2 := Fq.eqzD n m hm
  obtain ⟨X, hX⟩ : ∃ X, X = Fq.wD n m := ⟨_, rfl⟩
  rw [← hX] at h1 g1 o1 o2 hs ⊢
  have HT : Hid ((2580562586483294208 ≤ m ∧ m ≤ 6633802251116740608 → n = true) ∧ (m < 9218868437227405312 → m ≠ 0 → n = true)) := ⟨fun h => by cases n; exact absurd ⟨rfl, by omega, by omega⟩ hi; rfl, fun h z => by cases n; exact absurd ⟨rfl, h, z⟩ hi; rfl⟩
  clear hX hi hm
  go_enter Tryz.func38, Tryz.ntmps38
  go_wp2
  refine wp_scope_jumps 0 (fun a' w' => w' = w ∧ ∃ u2 u3 u4 u5 u6 u7 u8 u9 u10 u11 u12 u13 u14 u15 u16 u17 u18 u19 u20 u21 u22 u23 u24 u25 u26 u27 u28 u29 u30 u31 u32 u33 u34 u35 u36 : Value, a' = ⟨#[.int .i64 d, .float .f64 X, u2, u3, u4, u5, u6, u7, u8, u9, u10, u11, u12, u13, u14, u15, u16, u17, u18, u19, u20, u21, u22, u23, u24, u25, u26, u27, u28, u29, u30, u31, u32, u33, u34, u35, u36], []⟩) (fun _ _ => 0) rfl ?_ ?_
  · clear g1 o2 hs hpl
    by_cases c1 : 2580562586483294208 ≤ m ∧ m ≤ 6633802251116740608
    · rw [decide_eq_true c1] at h1
      have o3 : (FloatKind.f64.format.order X 0 == some .lt) = true := (o1 (by omega) (by omega)).trans (HT.out.1 c1)
      clear c1 HT o1
      go_wp2_with fail
      refine h1.mono ?_; rintro e w' ⟨rfl, hw'⟩; obtain rfl := hw'.symm; clear hw' h1
      go_wp2_with fail
      go_step3
      exact ⟨rfl, rfl, _, _, _, _, _, _, _, _, _, _, _, _, _, _, _, _, _, _, _, _, _, _, _, _, _, _, _, _, _, _, _, _, _, _, _, rfl⟩
    · rw [decide_eq_false c1] at h1
      clear c1 HT o1
      go_wp2_with fail
      refine h1.mono ?_; rintro e w' ⟨rfl, hw'⟩; obtain rfl := hw'.symm; clear hw' h1
      go_wp2_with fail
      go_step3
      exact ⟨rfl, rfl, _, _, _, _, _, _, _, _, _, _, _, _, _, _, _, _, _, _, _, _, _, _, _, _, _, _, _, _, _, _, _, _, _, _, _, rfl⟩
  · rintro a' w' ⟨rfl, u2, u3, u4, u5, u6, u7, u8, u9, u10, u11, u12, u13, u14, u15, u16, u17, u18, u19, u20, u21, u22, u23, u24, u25, u26, u27, u28, u29, u30, u31, u32, u33, u34, u35, u36, rfl⟩
    clear h1
    by_cases c1 : m < 9218868437227405312
    · rw [decide_eq_true c1] at g1
      by_cases c2 : m = 0
      · rw [show (m == 0) = true from by simp [c2]] at o2
        clear c1 c2 HT o1
        go_wp2_with fail
        refine g1.mono ?_; rintro e w7 ⟨rfl, hw'⟩; obtain rfl := hw'.symm; clear hw' g1
        go_wp2_with fail
        refine hs.mono ?_; rintro e w8 ⟨rfl, hw'⟩; obtain rfl := hw'.symm; clear hw' hs
        go_wp2_with fail
        refine hpl.mono ?_; rintro e w8 ⟨rfl, hw'⟩; obtain rfl := hw'.symm; clear hw' hpl
        go_wp2
        try simp only [Exit.jump]
        exact bodyPost_ret (v := .float .f64 R2) (by simp [results, Tryz.results38, go_sem]) rfl ⟨rfl, hk⟩
      · have o3 : (FloatKind.f64.format.order X 0 == some .lt) = true := (o1 c2 (by omega)).trans (HT.out.2 c1 c2)
        clear c1 c2 HT o1 o2
        go_wp2_with fail
        refine g1.mono ?_; rintro e w7 ⟨rfl, hw'⟩; obtain rfl := hw'.symm; clear hw' g1
        go_wp2_with fail
        refine hs.mono ?_; rintro e w8 ⟨rfl, hw'⟩; obtain rfl := hw'.symm; clear hw' hs
        go_wp2_with fail
        refine hpl.mono ?_; rintro e w8 ⟨rfl, hw'⟩; obtain rfl := hw'.symm; clear hw' hpl
        go_wp2
        try simp only [Exit.jump]
        exact bodyPost_ret (v := .float .f64 R2) (by simp [results, Tryz.results38, go_sem]) rfl ⟨rfl, hk⟩
    · rw [decide_eq_false c1] at g1
      clear c1 HT o1 o2
      go_wp2_with fail
      refine g1.mono ?_; rintro e w7 ⟨rfl, hw'⟩; obtain rfl := hw'.symm; clear hw' g1
      go_wp2_with fail
      refine hs.mono ?_; rintro e w8 ⟨rfl, hw'⟩; obtain rfl := hw'.symm; clear hw' hs
      go_wp2_with fail
      refine hpl.mono ?_; rintro e w8 ⟨rfl, hw'⟩; obtain rfl := hw'.symm; clear hw' hpl
      go_wp2
      try simp only [Exit.jump]
      exact bodyPost_ret (v := .float .f64 R2) (by simp [results, Tryz.results38, go_sem]) rfl ⟨rfl, hk⟩
end Go.Proofs.YtkheefoabcibkaaGreatDoor
namespace Go.Proofs.YtkheefoabcibkaaGreatDoor
open Go.RowKit
set_option maxRecDepth 20000 in
set_option maxHeartbeats 1000000 in
theorem sqv_ (a b LO HI : Nat) (hr : ∀ w : World, Calls Tryz.prog 28 #[.agg #[.float .f64 a, .float .f64 b]] w fun e w' => e = .returned (.agg #[.float .f64 LO, .float .f64 HI]) ∧ Kp w w') (hv : ∀ w : World, Calls Tryz.prog 29 #[.agg #[.float .f64 LO, .float .f64 HI]] w fun e w' => e = .returned (.bool true) ∧ Kp w w') (hE : ∀ w : World, Calls Tryz.prog 9 #[] w fun e w' => e = .returned (.agg #[.float .f64 9218868437227405312, .float .f64 18442240474082181120]) ∧ Kp w w') (w : World) : Calls Tryz.prog 17 #[.agg #[.float .f64 a, .float .f64 b]] w fun e w' => e = .returned (.agg #[.float .f64 9218868437227405312, .float .f64 18442240474082181120]) ∧ Kp w w' := by
  go_enter Tryz.func17, Tryz.ntmps17
  go_wp2_with (first | (go_at_call 28; refine (hr _).mono ?_; rintro e w1 ⟨rfl, g1⟩; have q0 := Fq.H2.keep (Fq.H2.past (Fq.H2.new w (.float .f64 a) (.float .f64 b) 25) #[.float .f64 0, .float .f64 0] 25) g1; have q1 : Fq.H2 w1 (w.heap.size + 1) (.float .f64 0) (.float .f64 0) := Fq.H2.keep (Fq.H2.two0 w (.float .f64 a) (.float .f64 b) (.float .f64 0) (.float .f64 0) 25 25) g1; have kw : Kp w w1 := Kp.trans (((Kp.refl w).alloc _).alloc _) g1; obtain ⟨x0, x1, x2, x3⟩ := id q0; obtain ⟨y0, y1, y2, y3⟩ := id q1) | (go_at_call 29; refine (hv _).mono ?_; rintro e w2 ⟨rfl, g2⟩; have qx := Fq.H2.keep (Fq.H2.put q0 (.float .f64 LO) (.float .f64 HI)) g2; have qy := Fq.H2.keep (Fq.H2.far q1 (show w.heap.size ≠ w.heap.size + 1 by omega) (.float .f64 LO) (.float .f64 HI)) g2; have kv : Kp w w2 := Kp.trans ((kw.setCell (Nat.le_refl _) _).setCell (Nat.le_refl _) _) g2; obtain ⟨u0, u1, u2, u3⟩ := id qx; obtain ⟨v0, v1, v2, v3⟩ := id qy) | (go_at_call 9; refine (hE _).mono ?_; rintro e w3 ⟨rfl, g3⟩; have ke := Kp.trans kv g3; obtain ⟨e0, e1, e2, e3⟩ := Fq.H2.keep qy g3))
  exact bodyPost_ret (v := .agg #[.float .f64 9218868437227405312, .float .f64 18442240474082181120]) (by simp [results, Tryz.results17, go_sem, e0, e1]) rfl ⟨rfl, (ke.setCell (by simp) _).setCell (by simp) _⟩
set_option maxRecDepth 20000 in
set_option maxHeartbeats 1000000 in
theorem sqn_ (a b LO HI : Nat) (hr : ∀ w : World, Calls Tryz.prog 28 #[.agg #[.float .f64 a, .float .f64 b]] w fun e w' => e = .returned (.agg #[.float .f64 LO, .float .f64 HI]) ∧ Kp w w') (hv : ∀ w : World, Calls Tryz.prog 29 #[.agg #[.float .f64 LO, .float .f64 HI]] w fun e w' => e = .returned (.bool false) ∧ Kp w w') (hE : ∀ w : World, Calls Tryz.prog 9 #[] w fun e w' => e = .returned (.agg #[.float .f64 9218868437227405312, .float .f64 18442240474082181120]) ∧ Kp w w') (t1 : (FloatKind.f64.format.order HI 0 == some Ordering.lt) = true) (w : World) : Calls Tryz.prog 17 #[.agg #[.float .f64 a, .float .f64 b]] w fun e w' => e = .returned (.agg #[.float .f64 9218868437227405312, .float .f64 18442240474082181120]) ∧ Kp w w' := by
  go_enter Tryz.func17, Tryz.ntmps17
  go_wp2_with (first | (go_at_call 28; refine (hr _).mono ?_; rintro e w1 ⟨rfl, g1⟩; have q0 := Fq.H2.keep (Fq.H2.past (Fq.H2.new w (.float .f64 a) (.float .f64 b) 25) #[.float .f64 0, .float .f64 0] 25) g1; have q1 : Fq.H2 w1 (w.heap.size + 1) (.float .f64 0) (.float .f64 0) := Fq.H2.keep (Fq.H2.two0 w (.float .f64 a) (.float .f64 b) (.float .f64 0) (.float .f64 0) 25 25) g1; have kw : Kp w w1 := Kp.trans (((Kp.refl w).alloc _).alloc _) g1; obtain ⟨x0, x1, x2, x3⟩ := id q0; obtain ⟨y0, y1, y2, y3⟩ := id q1) | (go_at_call 29; refine (hv _).mono ?_; rintro e w2 ⟨rfl, g2⟩; have qx := Fq.H2.keep (Fq.H2.put q0 (.float .f64 LO) (.float .f64 HI)) g2; have qy := Fq.H2.keep (Fq.H2.far q1 (show w.heap.size ≠ w.heap.size + 1 by omega) (.float .f64 LO) (.float .f64 HI)) g2; have kv : Kp w w2 := Kp.trans ((kw.setCell (Nat.le_refl _) _).setCell (Nat.le_refl _) _) g2; obtain ⟨u0, u1, u2, u3⟩ := id qx; obtain ⟨v0, v1, v2, v3⟩ := id qy) | (go_at_call 9; refine (hE _).mono ?_; rintro e w3 ⟨rfl, g3⟩; have ke := Kp.trans kv g3; obtain ⟨e0, e1, e2, e3⟩ := Fq.H2.keep qy g3))
  exact bodyPost_ret (v := .agg #[.float .f64 9218868437227405312, .float .f64 18442240474082181120]) (by simp [results, Tryz.results17, go_sem, e0, e1]) rfl ⟨rfl, (ke.setCell (by simp) _).setCell (by simp) _⟩
set_option maxRecDepth 20000 in
set_option maxHeartbeats 1000000 in
theorem sqs_ (a b LO HI : Nat) (hr : ∀ w : World, Calls Tryz.prog 28 #[.agg #[.float .f64 a, .float .f64 b]] w fun e w' => e = .returned (.agg #[.float .f64 LO, .float .f64 HI]) ∧ Kp w w') (MX NL NH : Nat) (hv : ∀ w : World, Calls Tryz.prog 29 #[.agg #[.float .f64 LO, .float .f64 HI]] w fun e w' => e = .returned (.bool false) ∧ Kp w w') (t1 : (FloatKind.f64.format.order HI 0 == some Ordering.lt) = false) (hm : ∀ (ts : Array TypeId) (t : TypeId) (w : World), (Builtin.max_ ts t #[.float .f64 LO, .float .f64 0]).run Tryz.prog w = .ok (.float .f64 MX) w) (w : World) (hA1 : ∀ W : World, Kp w W → Calls Tryz.prog 38 #[.int .i64 (-1), .float .f64 MX] W fun e w' => e = .returned (.float .f64 NL) ∧ Kp W w') (hA2 : ∀ W : World, Kp w W → Calls Tryz.prog 38 #[.int .i64 1, .float .f64 HI] W fun e w' => e = .returned (.float .f64 NH) ∧ Kp W w') : Calls Tryz.prog 17 #[.agg #[.float .f64 a, .float .f64 b]] w fun e w' => e = .returned (.agg #[.float .f64 NL, .float .f64 NH]) ∧ Kp w w' := by
  go_enter Tryz.func17, Tryz.ntmps17
  go_wp2_with (first | (go_at_call 28; refine (hr _).mono ?_; rintro e w1 ⟨rfl, g1⟩; have q0 := Fq.H2.keep (Fq.H2.past (Fq.H2.new w (.float .f64 a) (.float .f64 b) 25) #[.float .f64 0, .float .f64 0] 25) g1; have q1 : Fq.H2 w1 (w.heap.size + 1) (.float .f64 0) (.float .f64 0) := Fq.H2.keep (Fq.H2.two0 w (.float .f64 a) (.float .f64 b) (.float .f64 0) (.float .f64 0) 25 25) g1; have kw : Kp w w1 := Kp.trans (((Kp.refl w).alloc _).alloc _) g1; obtain ⟨x0, x1, x2, x3⟩ := id q0; obtain ⟨y0, y1, y2, y3⟩ := id q1) | (go_at_call 29; refine (hv _).mono ?_; rintro e w2 ⟨rfl, g2⟩; have qx := Fq.H2.keep (Fq.H2.put q0 (.float .f64 LO) (.float .f64 HI)) g2; have qy := Fq.H2.keep (Fq.H2.far q1 (show w.heap.size ≠ w.heap.size + 1 by omega) (.float .f64 LO) (.float .f64 HI)) g2; have kv : Kp w w2 := Kp.trans ((kw.setCell (Nat.le_refl _) _).setCell (Nat.le_refl _) _) g2; obtain ⟨u0, u1, u2, u3⟩ := id qx; obtain ⟨v0, v1, v2, v3⟩ := id qy))
  have d0 : w2.drew.cell? ⟨w.heap.size, 0, none⟩ = some (.float .f64 LO) := u0
  have d1 : w2.drew.cell? ⟨w.heap.size, 1, none⟩ = some (.float .f64 HI) := u1
  have hn1 : w.heap.size + 1 ≠ w.heap.size := by omega
  go_region_held3 (fun w' => w'.cell? ⟨w.heap.size, 0, none⟩ = some (.float .f64 LO) ∧ w'.cell? ⟨w.heap.size, 1, none⟩ = some (.float .f64 HI)) (first | (with_reducible exact ⟨d0, d1⟩) | (with_reducible exact ⟨u0, u1⟩) | (with_reducible exact ⟨a0, a1⟩) | (with_reducible exact ⟨b0, b1⟩) | (exact ⟨((World.cell?_setCell_far _ _ _ _ hn1).trans ((World.cell?_setCell_far _ _ _ _ hn1).trans b0)), ((World.cell?_setCell_far _ _ _ _ hn1).trans ((World.cell?_setCell_far _ _ _ _ hn1).trans b1))⟩)) (first | (go_at_call_of 38 (Value.float .f64 MX); refine (hA1 _ ?q0).mono ?_; (case q0 => exact kv.drew); rintro e wl ⟨rfl, gl⟩; have kl : Kp w2 wl := Kp.trans (Kp.drew (Kp.refl _)) gl; have a0 := kkeep kl u0; have a1 := kkeep kl u1) | (go_at_call_of 38 (Value.float .f64 HI); refine (hA2 _ ?q0).mono ?_; (case q0 => exact kv.trans kl); rintro e wh ⟨rfl, gh⟩; have kh : Kp w2 wh := Kp.trans kl gh; have b0 := kkeep kh u0; have b1 := kkeep kh u1; obtain ⟨R0, R1, R2, R3⟩ := Fq.H2.keep qy kh))
  go_wp2
  exact bodyPost_ret (v := .agg #[.float .f64 NL, .float .f64 NH]) (by simp [results, Tryz.results17, go_sem, R0, R1]) rfl ⟨rfl, ((kv.trans kh).setCell (by simp) _).setCell (by simp) _⟩
end Go.Proofs.YtkheefoabcibkaaGreatDoor
namespace Go.Proofs.YtkheefoabcibkaaGreatDoor
open Go.RowKit
set_option linter.unusedVariables false
set_option maxRecDepth 20000 in
set_option maxHeartbeats 1000000 in
theorem magnT_ (X Y M R LO HI : Nat) (ha1 : ∀ w : World, Calls Tryz.prog 58 #[.float .f64 X] w fun e w' => e = .returned (.float .f64 M) ∧ w' = w) (ha2 : ∀ w : World, Calls Tryz.prog 58 #[.float .f64 Y] w fun e w' => e = .returned (.float .f64 R) ∧ w' = w) (hm1 : ∀ (ts : Array TypeId) (t : TypeId) (w : World), (Builtin.max_ ts t #[.float .f64 M, .float .f64 R]).run Tryz.prog w = .ok (.float .f64 HI) w) (hm2 : ∀ (ts : Array TypeId) (t : TypeId) (w : World), (Builtin.min_ ts t #[.float .f64 M, .float .f64 R]).run Tryz.prog w = .ok (.float .f64 LO) w) (hh : ∀ w : World, Calls Tryz.prog 33 #[.agg #[.float .f64 X, .float .f64 Y]] w fun e w' => e = .returned (.bool true) ∧ Kp w w') (w : World) : Calls Tryz.prog 36 #[.agg #[.float .f64 X, .float .f64 Y]] w fun e w' => e = .returned (.tuple #[.float .f64 0, .float .f64 HI]) ∧ Kp w w' := by
  go_enter Tryz.func36, Tryz.ntmps36
  go_wp2
  refine Fq.wp_region_grow (by kernel_rfl) (by kernel_rfl) (fun ι _ G hG hall => ?_)
  have cc0 : ∀ n, (G n).cell? ⟨w.heap.size, 0, none⟩ = some (.float .f64 X) := fun n => Fq.gkeep (hG n) (by simp [go_sem])
  have cc1 : ∀ n, (G n).cell? ⟨w.heap.size, 1, none⟩ = some (.float .f64 Y) := fun n => Fq.gkeep (hG n) (by simp [go_sem])
  repeat (go_big_quiet_step (first | (go_at_call_of 58 (Value.float .f64 X); exact (ha1 _).mono (fun e w' h => ⟨h.1, hall _ (by rw [h.2]; exact hG _)⟩)) | (go_at_call_of 58 (Value.float .f64 Y); exact (ha2 _).mono (fun e w' h => ⟨h.1, hall _ (by rw [h.2]; exact hG _)⟩))))
  refine wpQuiet_nil ?_
  rintro _ ⟨nq, rfl⟩
  have gq : Kp _ (G nq) := hG nq
  have y0 := cc0 nq
  have y1 := cc1 nq
  clear cc0 cc1 hall hG
  have kG : Kp w (G nq) := Kp.trans ((Kp.refl w).alloc _) gq
  clear gq
  generalize G nq = W at y0 y1 kG ⊢
  go_wp2_with (first | (go_at_call 33; refine (hh _).mono ?_; rintro e w2 ⟨rfl, g2⟩; have k2 : Kp w w2 := Kp.trans kG g2))
  exact bodyPost_ret (v := .tuple #[.float .f64 0, .float .f64 HI]) (by simp [results, Tryz.results36, go_sem]) rfl ⟨rfl, k2⟩
set_option maxRecDepth 20000 in
set_option maxHeartbeats 1000000 in
theorem magnF_ (X Y M R LO HI : Nat) (ha1 : ∀ w : World, Calls Tryz.prog 58 #[.float .f64 X] w fun e w' => e = .returned (.float .f64 M) ∧ w' = w) (ha2 : ∀ w : World, Calls Tryz.prog 58 #[.float .f64 Y] w fun e w' => e = .returned (.float .f64 R) ∧ w' = w) (hm1 : ∀ (ts : Array TypeId) (t : TypeId) (w : World), (Builtin.max_ ts t #[.float .f64 M, .float .f64 R]).run Tryz.prog w = .ok (.float .f64 HI) w) (hm2 : ∀ (ts : Array TypeId) (t : TypeId) (w : World), (Builtin.min_ ts t #[.float .f64 M, .float .f64 R]).run Tryz.prog w = .ok (.float .f64 LO) w) (hh : ∀ w : World, Calls Tryz.prog 33 #[.agg #[.float .f64 X, .float .f64 Y]] w fun e w' => e = .returned (.bool false) ∧ Kp w w') (w : World) : Calls Tryz.prog 36 #[.agg #[.float .f64 X, .float .f64 Y]] w fun e w' => e = .returned (.tuple #[.float .f64 LO, .float .f64 HI]) ∧ Kp w w' := by
  go_enter Tryz.func36, Tryz.ntmps36
  go_wp2
  refine Fq.wp_region_grow (by kernel_rfl) (by kernel_rfl) (fun ι _ G hG hall => ?_)
  have cc0 : ∀ n, (G n).cell? ⟨w.heap.size, 0, none⟩ = some (.float .f64 X) := fun n => Fq.gkeep (hG n) (by simp [go_sem])
  have cc1 : ∀ n, (G n).cell? ⟨w.heap.size, 1, none⟩ = some (.float .f64 Y) := fun n => Fq.gkeep (hG n) (by simp [go_sem])
  repeat (go_big_quiet_step (first | (go_at_call_of 58 (Value.float .f64 X); exact (ha1 _).mono (fun e w' h => ⟨h.1, hall _ (by rw [h.2]; exact hG _)⟩)) | (go_at_call_of 58 (Value.float .f64 Y); exact (ha2 _).mono (fun e w' h => ⟨h.1, hall _ (by rw [h.2]; exact hG _)⟩))))
  refine wpQuiet_nil ?_
  rintro _ ⟨nq, rfl⟩
  have gq : Kp _ (G nq) := hG nq
  have y0 := cc0 nq
  have y1 := cc1 nq
  clear cc0 cc1 hall hG
  have kG : Kp w (G nq) := Kp.trans ((Kp.refl w).alloc _) gq
  clear gq
  generalize G nq = W at y0 y1 kG ⊢
  go_wp2_with (first | (go_at_call 33; refine (hh _).mono ?_; rintro e w2 ⟨rfl, g2⟩; have k2 : Kp w w2 := Kp.trans kG g2))
  exact bodyPost_ret (v := .tuple #[.float .f64 LO, .float .f64 HI]) (by simp [results, Tryz.results36, go_sem]) rfl ⟨rfl, k2⟩
set_option maxRecDepth 20000 in
set_option maxHeartbeats 1000000 in
theorem sqrV_ (a b LO HI : Nat) (hr : ∀ w : World, Calls Tryz.prog 28 #[.agg #[.float .f64 a, .float .f64 b]] w fun e w' => e = .returned (.agg #[.float .f64 LO, .float .f64 HI]) ∧ Kp w w') (hv : ∀ w : World, Calls Tryz.prog 29 #[.agg #[.float .f64 LO, .float .f64 HI]] w fun e w' => e = .returned (.bool true) ∧ Kp w w') (hE : ∀ w : World, Calls Tryz.prog 9 #[] w fun e w' => e = .returned (.agg #[.float .f64 9218868437227405312, .float .f64 18442240474082181120]) ∧ Kp w w') (w : World) : Calls Tryz.prog 16 #[.agg #[.float .f64 a, .float .f64 b]] w fun e w' => e = .returned (.agg #[.float .f64 9218868437227405312, .float .f64 18442240474082181120]) ∧ Kp w w' := by
  go_enter Tryz.func16, Tryz.ntmps16
  go_wp2_with (first | (go_at_call 28; refine (hr _).mono ?_; rintro e w1 ⟨rfl, g1⟩; have q0 := Fq.H2.keep (Fq.H2.past (Fq.H2.new w (.float .f64 a) (.float .f64 b) 25) #[.float .f64 0, .float .f64 0] 25) g1; have q1 : Fq.H2 w1 (w.heap.size + 1) (.float .f64 0) (.float .f64 0) := Fq.H2.keep (Fq.H2.two0 w (.float .f64 a) (.float .f64 b) (.float .f64 0) (.float .f64 0) 25 25) g1; have kw : Kp w w1 := Kp.trans (((Kp.refl w).alloc _).alloc _) g1; obtain ⟨x0, x1, x2, x3⟩ := id q0; obtain ⟨y0, y1, y2, y3⟩ := id q1) | (go_at_call 29; refine (hv _).mono ?_; rintro e w2 ⟨rfl, g2⟩; have qx := Fq.H2.keep (Fq.H2.put q0 (.float .f64 LO) (.float .f64 HI)) g2; have qy := Fq.H2.keep (Fq.H2.far q1 (show w.heap.size ≠ w.heap.size + 1 by omega) (.float .f64 LO) (.float .f64 HI)) g2; have kv : Kp w w2 := Kp.trans ((kw.setCell (Nat.le_refl _) _).setCell (Nat.le_refl _) _) g2; obtain ⟨u0, u1, u2, u3⟩ := id qx; obtain ⟨v0, v1, v2, v3⟩ := id qy) | (go_at_call 9; refine (hE _).mono ?_; rintro e w3 ⟨rfl, g3⟩; have ke := Kp.trans kv g3; obtain ⟨e0, e1, e2, e3⟩ := Fq.H2.keep qy g3))
  exact bodyPost_ret (v := .agg #[.float .f64 9218868437227405312, .float .f64 18442240474082181120]) (by simp [results, Tryz.results16, go_sem, e0, e1]) rfl ⟨rfl, (ke.setCell (by simp) _).setCell (by simp) _⟩
set_option maxRecDepth 20000 in
set_option maxHeartbeats 1000000 in
theorem sqrS_ (a b LO HI : Nat) (hr : ∀ w : World, Calls Tryz.prog 28 #[.agg #[.float .f64 a, .float .f64 b]] w fun e w' => e = .returned (.agg #[.float .f64 LO, .float .f64 HI]) ∧ Kp w w') (hv : ∀ w : World, Calls Tryz.prog 29 #[.agg #[.float .f64 LO, .float .f64 HI]] w fun e w' => e = .returned (.bool false) ∧ Kp w w') (ML MH NL NH : Nat) (hmg : ∀ w : World, Calls Tryz.prog 36 #[.agg #[.float .f64 LO, .float .f64 HI]] w fun e w' => e = .returned (.tuple #[.float .f64 ML, .float .f64 MH]) ∧ Kp w w') (w : World) (hA1 : ∀ W : World, Kp w W → Calls Tryz.prog 37 #[.int .i64 (-1), .float .f64 ML, .float .f64 ML] W fun e w' => e = .returned (.float .f64 NL) ∧ Kp W w') (hA2 : ∀ W : World, Kp w W → Calls Tryz.prog 37 #[.int .i64 1, .float .f64 MH, .float .f64 MH] W fun e w' => e = .returned (.float .f64 NH) ∧ Kp W w') : Calls Tryz.prog 16 #[.agg #[.float .f64 a, .float .f64 b]] w fun e w' => e = .returned (.agg #[.float .f64 NL, .float .f64 NH]) ∧ Kp w w' := by
  go_enter Tryz.func16, Tryz.ntmps16
  go_wp2_with (first | (go_at_call 28; refine (hr _).mono ?_; rintro e w1 ⟨rfl, g1⟩; have q0 := Fq.H2.keep (Fq.H2.past (Fq.H2.new w (.float .f64 a) (.float .f64 b) 25) #[.float .f64 0, .float .f64 0] 25) g1; have q1 : Fq.H2 w1 (w.heap.size + 1) (.float .f64 0) (.float .f64 0) := Fq.H2.keep (Fq.H2.two0 w (.float .f64 a) (.float .f64 b) (.float .f64 0) (.float .f64 0) 25 25) g1; have kw : Kp w w1 := Kp.trans (((Kp.refl w).alloc _).alloc _) g1; obtain ⟨x0, x1, x2, x3⟩ := id q0; obtain ⟨y0, y1, y2, y3⟩ := id q1) | (go_at_call 29; refine (hv _).mono ?_; rintro e w2 ⟨rfl, g2⟩; have qx := Fq.H2.keep (Fq.H2.put q0 (.float .f64 LO) (.float .f64 HI)) g2; have qy := Fq.H2.keep (Fq.H2.far q1 (show w.heap.size ≠ w.heap.size + 1 by omega) (.float .f64 LO) (.float .f64 HI)) g2; have kv : Kp w w2 := Kp.trans ((kw.setCell (Nat.le_refl _) _).setCell (Nat.le_refl _) _) g2; obtain ⟨u0, u1, u2, u3⟩ := id qx; obtain ⟨v0, v1, v2, v3⟩ := id qy) | (go_at_call 36; refine (hmg _).mono ?_; rintro e w3 ⟨rfl, g3⟩; have k3 := Kp.trans kv g3) | (go_at_call_of 37 (Value.float .f64 ML); refine (hA1 _ k3).mono ?_; rintro e w4 ⟨rfl, g4⟩; have k4 := Kp.trans k3 g4) | (go_at_call_of 37 (Value.float .f64 MH); refine (hA2 _ k4).mono ?_; rintro e w5 ⟨rfl, g5⟩; have k5 := Kp.trans k4 g5; obtain ⟨e0, e1, e2, e3⟩ := Fq.H2.keep (Fq.H2.keep (Fq.H2.keep qy g3) g4) g5))
  exact bodyPost_ret (v := .agg #[.float .f64 NL, .float .f64 NH]) (by simp [results, Tryz.results16, go_sem, e0, e1]) rfl ⟨rfl, (k5.setCell (by simp) _).setCell (by simp) _⟩
end Go.Proofs.YtkheefoabcibkaaGreatDoor
namespace Go.Proofs.YtkheefoabcibkaaGreatDoor
open Go.RowKit
set_option linter.unusedVariables false
/-- the root of a number that is not below 0, rounded -/
def sqW (d : Int) (m : Nat) : Nat := if m = 9218868437227405312 then 9218868437227405312 else if m = 0 then 0 else rootW d (Fq.vV Ieee.double m)
theorem sqP_ (d : Int) (m : Nat) (hm : m ≤ 9218868437227405312) (w : World) (hQ : Fq.Tab w) (hd1 : -9223372036854775808 ≤ d) (hd2 : d < 9223372036854775808) : Calls Tryz.prog 38 #[.int .i64 d, .float .f64 (Fq.wD false m)] w fun e w' => e = .returned (.float .f64 (sqW d m)) ∧ Kp w w' := by
  unfold sqW
  by_cases c1 : m = 9218868437227405312
  · rw [if_pos c1]
    subst c1
    have hp := Fq.plain_d false 9218868437227405312 (by decide) w
    rw [Bool.false_and] at hp
    exact psqrtP_ d false 9218868437227405312 (by decide) (fun h => by omega) w w _ _ (msqrt_ _ _ sqrt_inf w) (Kp.refl _) hp
  · rw [if_neg c1]
    by_cases z : m = 0
    · rw [if_pos z]
      subst z
      have hp := Fq.plain_d false 0 (by decide) w
      rw [show Fq.wD (false && !((0 : Nat) == 0)) 0 = 0 from by simp; rfl] at hp
      exact psqrtP_ d false 0 (by decide) (fun h => h.2.2 rfl) w w _ _ (msqrt_ _ _ (sqrt_zero false) w) (Kp.refl _) hp
    · rw [if_neg z]
      by_cases ct : 2580562586483294208 ≤ m ∧ m ≤ 6633802251116740608
      · exact psqrtQ_ d m ct w
      · exact psqrtE_ d m (by omega) z ct w hQ hd1 hd2
theorem mulS_ (K : Nat) (hK : K = 1074) (d x : Int) (hd1 : -9223372036854775808 ≤ d) (hd2 : d < 9223372036854775808) (hx : BdZ x) (w : World) (hT : TT w) : Calls Tryz.prog 37 #[.int .i64 d, .float .f64 (pw x), .float .f64 (pw x)] w fun e w' => e = .returned (.float .f64 (pw (muZ K d x x))) ∧ Kp w w' := by
  have h := mulO_ K hK d (sN x) (sN x) x.natAbs x.natAbs (aI x hx) (aI x hx) hd1 hd2 w hT.1 hT.2
  refine h.mono ?_
  rintro e w' ⟨R, rfl, hR, k⟩
  have hz : ∃ z, oM K d (sN x) x.natAbs (sN x) x.natAbs = some z := by
    unfold oM
    rw [if_neg (by unfold BdZ at hx; omega)]
    repeat' split
    all_goals exact ⟨_, rfl⟩
  obtain ⟨z, hz⟩ := hz
  refine ⟨?_, k⟩
  rw [hR z hz]
  unfold muZ
  rw [hz]; rfl
theorem abs9_ (x : Int) (h : BdZ x) (w : World) : Calls Tryz.prog 58 #[.float .f64 (pw x)] w fun e w' => e = .returned (.float .f64 (pw (x.natAbs : Int))) ∧ w' = w := by
  have g := abs_ (decide (x < 0)) x.natAbs (by have := abs_pw x h; omega) w
  rw [pw_of x.natAbs (abs_pw x h)]
  exact g
def sMl (L H : Int) : Int := if L ≤ 0 ∧ 0 ≤ H then 0 else min (L.natAbs : Int) (H.natAbs : Int)
def sMh (L H : Int) : Int := max (L.natAbs : Int) (H.natAbs : Int)
def sLo (K : Nat) (L H : Int) : Int := if L = 9218868437227405312 then 9218868437227405312 else muZ K (-1) (sMl L H) (sMl L H)
def sHi (K : Nat) (L H : Int) : Int := if L = 9218868437227405312 then -9218868437227405312 else muZ K 1 (sMh L H) (sMh L H)
theorem bd_abs (x : Int) (h : BdZ x) : BdZ (x.natAbs : Int) := by unfold BdZ at *; omega
theorem sMl_bd (L H : Int) (h1 : BdZ L) (h2 : BdZ H) : BdZ (sMl L H) := by
  unfold sMl
  split
  · unfold BdZ; omega
  · exact bd_min _ _ (bd_abs _ h1) (bd_abs _ h2)
theorem magn9_ (L H : Int) (h1 : BdZ L) (h2 : BdZ H) (w : World) : Calls Tryz.prog 36 #[.agg #[.float .f64 (pw L), .float .f64 (pw H)]] w fun e w' => e = .returned (.tuple #[.float .f64 (pw (sMl L H)), .float .f64 (pw (sMh L H))]) ∧ Kp w w' := by
  have hh := holdsN_ (pw L) (pw H) _ _ (le0_pw L h1) (ge0_pw H h2)
  have hM := max9_ _ _ (bd_abs _ h1) (bd_abs _ h2)
  have hm := min9_ _ _ (bd_abs _ h1) (bd_abs _ h2)
  unfold sMl sMh
  by_cases c : L ≤ 0 ∧ 0 ≤ H
  · rw [if_pos c]
    rw [and2 _ _ c] at hh
    exact magnT_ _ _ _ _ _ _ (abs9_ L h1) (abs9_ H h2) hM hm hh w
  · rw [if_neg c]
    rw [nand2 _ _ c] at hh
    exact magnF_ _ _ _ _ _ _ (abs9_ L h1) (abs9_ H h2) hM hm hh w
theorem sqr9_ (K : Nat) (hK : K = 1074) (a b : Nat) (L H : Int) (hx : Rd a b L H) (w : World) (hT : TT w) : Calls Tryz.prog 16 #[.agg #[.float .f64 a, .float .f64 b]] w fun e w' => e = .returned (.agg #[.float .f64 (pw (sLo K L H)), .float .f64 (pw (sHi K L H))]) ∧ Kp w w' := by
  have v := void9_ L H hx.vd
  unfold sLo sHi
  by_cases c : L = 9218868437227405312
  · rw [if_pos c, if_pos c, pw_I, pw_MI]
    rw [decide_eq_true c] at v
    exact sqrV_ a b _ _ hx.call v empty9_ w
  rw [decide_eq_false c] at v
  rw [if_neg c, if_neg c]
  exact sqrS_ a b _ _ hx.call v _ _ _ _ (magn9_ L H hx.vd.lo hx.vd.hi) w (fun W k => mulS_ K hK (-1) _ (by omega) (by omega) (sMl_bd L H hx.vd.lo hx.vd.hi) W (hT.kp k)) (fun W k => mulS_ K hK 1 _ (by omega) (by omega) (bd_max _ _ (bd_abs _ hx.vd.lo) (bd_abs _ hx.vd.hi)) W (hT.kp k))
def rLo (L H : Int) : Nat := if L = 9218868437227405312 ∨ H < 0 then 9218868437227405312 else sqW (-1) (max L 0).natAbs
def rHi (L H : Int) : Nat := if L = 9218868437227405312 ∨ H < 0 then 18442240474082181120 else sqW 1 H.natAbs
theorem rsq9_ (d x : Int) (hd1 : -9223372036854775808 ≤ d) (hd2 : d < 9223372036854775808) (h : BdZ x) (x0 : 0 ≤ x) (w : World) (hT : TT w) : Calls Tryz.prog 38 #[.int .i64 d, .float .f64 (pw x)] w fun e w' => e = .returned (.float .f64 (sqW d x.natAbs)) ∧ Kp w w' := by
  have g := sqP_ d x.natAbs (abs_pw x h) w hT.2 hd1 hd2
  unfold pw
  rw [decide_eq_false (show ¬ x < 0 by omega)]
  exact g
theorem sqrt9_ (a b : Nat) (L H : Int) (hx : Rd a b L H) (w : World) (hT : TT w) : Calls Tryz.prog 17 #[.agg #[.float .f64 a, .float .f64 b]] w fun e w' => e = .returned (.agg #[.float .f64 (rLo L H), .float .f64 (rHi L H)]) ∧ Kp w w' := by
  have v := void9_ L H hx.vd
  have t := lt0_pw H hx.vd.hi
  unfold rLo rHi
  by_cases c : L = 9218868437227405312
  · rw [if_pos (Or.inl c), if_pos (Or.inl c)]
    rw [decide_eq_true c] at v
    exact sqv_ a b _ _ hx.call v empty9_ w
  rw [decide_eq_false c] at v
  by_cases c2 : H < 0
  · rw [if_pos (Or.inr c2), if_pos (Or.inr c2)]
    rw [decide_eq_true c2] at t
    exact sqn_ a b _ _ hx.call v empty9_ t w
  rw [decide_eq_false c2] at t
  have cE : ¬ (L = 9218868437227405312 ∨ H < 0) := by omega
  rw [if_neg cE, if_neg cE]
  have b0 : BdZ 0 := by unfold BdZ; omega
  exact sqs_ a b _ _ hx.call _ _ _ v t (max9_ L 0 hx.vd.lo b0) w (fun W k => rsq9_ (-1) _ (by omega) (by omega) (bd_max _ _ hx.vd.lo b0) (by omega) W (hT.kp k)) (fun W k => rsq9_ 1 H (by omega) (by omega) hx.vd.hi (by omega) W (hT.kp k))
end Go.Proofs.YtkheefoabcibkaaGreatDoor
namespace Go.Proofs.YtkheefoabcibkaaGreatDoor
open Go.RowKit
set_option linter.unusedVariables false
theorem eq6n (x : Nat) (h : (FloatKind.f64.format.order x x == some Ordering.eq) = true) (w : World) : (Op.equalIn 9999 22 (.float .f64 x) (.float .f64 x)).run Tryz.prog w = .ok true w := by
  have g := Fq.eqIn6 x x w
  rw [h] at g
  exact g
set_option maxRecDepth 20000 in
set_option maxHeartbeats 8000000 in
theorem known6A_ (PI : Nat → Nat → Nat → Nat → Nat → Nat → Nat → Prop) (PU : Nat → Nat → Nat → Nat → Nat → Prop) (PN : Nat → Nat → Nat → Nat → Int → Prop) (hI : ∀ f x1 x2 y1 y2 z1 z2, PI f x1 x2 y1 y2 z1 z2 → ∀ w : World, TT w → Calls Tryz.prog f #[.agg #[.float .f64 x1, .float .f64 x2], .agg #[.float .f64 y1, .float .f64 y2]] w fun e w' => e = .returned (.agg #[.float .f64 z1, .float .f64 z2]) ∧ Kp w w') (hU : ∀ f x1 x2 z1 z2, PU f x1 x2 z1 z2 → ∀ w : World, TT w → Calls Tryz.prog f #[.agg #[.float .f64 x1, .float .f64 x2]] w fun e w' => e = .returned (.agg #[.float .f64 z1, .float .f64 z2]) ∧ Kp w w') (hN : ∀ x1 x2 z1 z2 E, PN x1 x2 z1 z2 E → ∀ w : World, Calls Tryz.prog 11 #[.float .f64 x1, .float .f64 x2] w fun e w' => e = .returned (.tuple #[.agg #[.float .f64 z1, .float .f64 z2], .int .i64 E]) ∧ Kp w w') (hF : ∀ w : World, TT w → Calls Tryz.prog 18 #[.agg #[.float .f64 9218868437227405311, .float .f64 9218868437227405311], .agg #[.float .f64 4611686018427387904, .float .f64 4611686018427387904], .agg #[.float .f64 18442240474082181119, .float .f64 18442240474082181119]] w fun e w' => e = .returned (.agg #[.float .f64 9218868437227405311, .float .f64 9218868437227405311]) ∧ Kp w w') (hE : ∀ w : World, Calls Tryz.prog 9 #[] w fun e w' => e = .returned (.agg #[.float .f64 9218868437227405312, .float .f64 18442240474082181120]) ∧ Kp w w') (hEn : ∀ w : World, Calls Tryz.prog 10 #[] w fun e w' => e = .returned (.agg #[.float .f64 18442240474082181120, .float .f64 9218868437227405312]) ∧ Kp w w') (hawk : ∀ w : World, TT w → Calls Tryz.prog 8 #[] w fun e w' => e = .returned (.bool true) ∧ Kp w w') (fi0 : PI 12 9218868437227405311 9218868437227405311 9218868437227405311 9218868437227405311 9218868437227405311 9218868437227405312) (fi1 : PI 13 1 1 1 1 0 1) (fi2 : PI 14 4607182418800017408 4611686018427387904 13839561654909534208 0 18442240474082181120 13821547256400052224) (fi3 : PI 14 4607182418800017408 9218868437227405312 4611686018427387904 9218868437227405312 0 9218868437227405312) (fu0 : PU 15 0 4611686018427387904 4602678819172646912 9218868437227405312) (fu1 : PU 16 13837309855095848960 4611686018427387904 0 4621256167635550208) (fu2 : PU 17 4611686018427387904 4611686018427387904 4609047870845172684 4609047870845172685) (fu3 : PU 17 13835058055282163712 13830554455654793216 9218868437227405312 18442240474082181120) (fn0 : PN 4607182418800017408 4611686018427387904 4607182418800017408 4611686018427387904 0) (fn1 : PN 4611686018427387904 4607182418800017408 0 0 1) (fn2 : PN 9218868437227405312 18442240474082181120 0 0 1) (w : World) (hT : TT w) : Calls Tryz.prog 3 #[] w fun e w' => e = .returned (.bool true) ∧ Kp w w' := by
  have hneg : ∀ w : World, (Op.unary .neg (.float .f64 9218868437227405312)).run Tryz.prog w = .ok (.float .f64 18442240474082181120) w := negW8 false 9218868437227405312 (by decide)
  have hneg2 : ∀ w : World, (Op.unary .neg (.float .f64 9218868437227405311)).run Tryz.prog w = .ok (.float .f64 18442240474082181119) w := negW8 false 9218868437227405311 (by decide)
  have e0 := eq6n 0 (by decide +kernel)
  have e1 := eq6n 1 (by decide +kernel)
  have e4602678819172646912 := eq6n 4602678819172646912 (by decide +kernel)
  have e4607182418800017408 := eq6n 4607182418800017408 (by decide +kernel)
  have e4609047870845172684 := eq6n 4609047870845172684 (by decide +kernel)
  have e4609047870845172685 := eq6n 4609047870845172685 (by decide +kernel)
  have e4611686018427387904 := eq6n 4611686018427387904 (by decide +kernel)
  have e4621256167635550208 := eq6n 4621256167635550208 (by decide +kernel)
  have e9218868437227405311 := eq6n 9218868437227405311 (by decide +kernel)
  have e9218868437227405312 := eq6n 9218868437227405312 (by decide +kernel)
  have e13821547256400052224 := eq6n 13821547256400052224 (by decide +kernel)
  have e18442240474082181120 := eq6n 18442240474082181120 (by decide +kernel)
  go_enter Tryz.func3, Tryz.ntmps3
  go_upto_region 6 with (first | (go_at_call 7; refine (Fq.inf1_ _).mono ?_; rintro e w' ⟨rfl, hw'⟩; obtain rfl := hw'.symm; clear hw'))
  have kW : Kp w ((w.alloc (.cells #[.float .f64 9218868437227405312, .float .f64 18442240474082181120] 25)).alloc (.cells #[.float .f64 18442240474082181120, .float .f64 9218868437227405312] 25)) := ((Kp.refl w).alloc _).alloc _
  have qv : Fq.H2 ((w.alloc (.cells #[.float .f64 9218868437227405312, .float .f64 18442240474082181120] 25)).alloc (.cells #[.float .f64 18442240474082181120, .float .f64 9218868437227405312] 25)) w.heap.size (.float .f64 9218868437227405312) (.float .f64 18442240474082181120) := Fq.H2.past (Fq.H2.new w _ _ 25) _ _
  have qa : Fq.H2 ((w.alloc (.cells #[.float .f64 9218868437227405312, .float .f64 18442240474082181120] 25)).alloc (.cells #[.float .f64 18442240474082181120, .float .f64 9218868437227405312] 25)) (w.heap.size + 1) (.float .f64 18442240474082181120) (.float .f64 9218868437227405312) := Fq.H2.two0 w _ _ _ _ _ _
  have hTW := hT.kp kW
  generalize ((w.alloc (.cells #[.float .f64 9218868437227405312, .float .f64 18442240474082181120] 25)).alloc (.cells #[.float .f64 18442240474082181120, .float .f64 9218868437227405312] 25)) = W at kW qv qa hTW ⊢
  go_upto_region 6 with fail
  go_cut [28] (fun s28 wx => s28 = .bool false ∧ Kp W wx)
  case first =>
    (
      refine Fq.wp_region_grow (by kernel_rfl) (by kernel_rfl) (fun ι _ G hG hall => ?_)
      have tG : ∀ n, TT (G n) := fun n => hTW.kp (hG n)
      have cc0 : ∀ n, (G n).cell? ⟨w.heap.size, 0, none⟩ = some (.float .f64 9218868437227405312) := fun n => Fq.gkeep (hG n) qv.1
      have cc1 : ∀ n, (G n).cell? ⟨w.heap.size, 1, none⟩ = some (.float .f64 18442240474082181120) := fun n => Fq.gkeep (hG n) qv.2.1
      have cc2 : ∀ n, (G n).cell? ⟨w.heap.size + 1, 0, none⟩ = some (.float .f64 18442240474082181120) := fun n => Fq.gkeep (hG n) qa.1
      have cc3 : ∀ n, (G n).cell? ⟨w.heap.size + 1, 1, none⟩ = some (.float .f64 9218868437227405312) := fun n => Fq.gkeep (hG n) qa.2.1
      repeat (go_big_quiet_step (first | (go_at_call 8; exact (hawk _ (tG _)).mono (fun e w' h => ⟨h.1, hall _ (Fq.gtrans (hG _) h.2)⟩)) | (go_at_call 9; exact (hE _).mono (fun e w' h => ⟨h.1, hall _ (Fq.gtrans (hG _) h.2)⟩)) | (go_at_call 10; exact (hEn _).mono (fun e w' h => ⟨h.1, hall _ (Fq.gtrans (hG _) h.2)⟩))))
      refine wpQuiet_nil ?_
      rintro _ ⟨nq, rfl⟩
      have gq : Kp W (G nq) := hG nq
      clear cc0 cc1 cc2 cc3 hall hG tG
      go_wp2_with fail
      go_meet
      exact ⟨rfl, gq⟩)
  case rest =>
  obtain ⟨rfl, gw⟩ := hcut
  replace qv := Fq.H2.keep qv gw
  replace qa := Fq.H2.keep qa gw
  replace hTW := hTW.kp gw
  replace kW := Kp.trans kW gw
  clear gw
  generalize wc = W at qv qa hTW kW ⊢
  go_upto_region 9 with (first | (go_at_call 11; refine (hN _ _ _ _ _ (by with_reducible first | exact fn0 | exact fn1 | exact fn2) _).mono ?_; rintro e wx ⟨rfl, gx⟩))
  have hbx : wx.heap.size ≠ w.heap.size := by have := Fq.H2.lt (Fq.H2.keep qv gx); omega
  have hwx : w.heap.size ≤ wx.heap.size := Below.size (Kp.trans kW gx)
  replace qv := Fq.H2.past (Fq.H2.keep qv gx) #[.float .f64 4607182418800017408, .float .f64 4611686018427387904] 25
  have qx := Fq.H2.new wx (.float .f64 4607182418800017408) (.float .f64 4611686018427387904) 25
  replace kW := (Kp.trans kW gx).alloc (.cells #[.float .f64 4607182418800017408, .float .f64 4611686018427387904] 25)
  replace hTW := hT.kp kW
  clear gx qa
  generalize wx.alloc (.cells #[.float .f64 4607182418800017408, .float .f64 4611686018427387904] 25) = W at qv qx kW hTW ⊢
  generalize wx.heap.size = bx at qx hbx hwx ⊢
  obtain ⟨x0, x1, x2, x3⟩ := id qx
  go_upto_region 12 with (first | (go_at_call 11; refine (hN _ _ _ _ _ (by with_reducible first | exact fn0 | exact fn1 | exact fn2) _).mono ?_; rintro e wx ⟨rfl, gx⟩; replace qx := Fq.H2.keep qx gx; obtain ⟨x0, x1, x2, x3⟩ := id qx))
  replace qv := Fq.H2.far (Fq.H2.keep qv gx) hbx (.float .f64 0) (.float .f64 0)
  replace kW : Kp w ((wx.setCell ⟨bx, 0, none⟩ (.float .f64 0)).setCell ⟨bx, 1, none⟩ (.float .f64 0)) := ((Kp.trans kW gx).setCell hwx _).setCell hwx _
  replace hTW := hT.kp kW
  have qy := Fq.H2.put qx (.float .f64 0) (.float .f64 0)
  clear x0 x1 x2 x3 qx gx
  have qx := qy
  clear qy
  generalize ((wx.setCell ⟨bx, 0, none⟩ (.float .f64 0)).setCell ⟨bx, 1, none⟩ (.float .f64 0)) = W at qv qx hTW kW ⊢
  obtain ⟨x0, x1, x2, x3⟩ := id qx
  go_upto_region 15 with (first | (go_at_call 11; refine (hN _ _ _ _ _ (by with_reducible first | exact fn0 | exact fn1 | exact fn2) _).mono ?_; rintro e wx ⟨rfl, gx⟩; replace qx := Fq.H2.keep qx gx; obtain ⟨x0, x1, x2, x3⟩ := id qx))
  replace qv := Fq.H2.far (Fq.H2.keep qv gx) hbx (.float .f64 0) (.float .f64 0)
  replace kW : Kp w ((wx.setCell ⟨bx, 0, none⟩ (.float .f64 0)).setCell ⟨bx, 1, none⟩ (.float .f64 0)) := ((Kp.trans kW gx).setCell hwx _).setCell hwx _
  replace hTW := hT.kp kW
  have qy := Fq.H2.put qx (.float .f64 0) (.float .f64 0)
  clear x0 x1 x2 x3 qx gx
  have qx := qy
  clear qy
  generalize ((wx.setCell ⟨bx, 0, none⟩ (.float .f64 0)).setCell ⟨bx, 1, none⟩ (.float .f64 0)) = W at qv qx hTW kW ⊢
  obtain ⟨x0, x1, x2, x3⟩ := id qx
  go_upto_region 27 with (first | (go_at_call 12; refine (hI 12 _ _ _ _ _ _ (by with_reducible first | exact fi0 | exact fi1 | exact fi2 | exact fi3) _ hTW).mono ?_; rintro e wx ⟨rfl, gx⟩; replace qv := Fq.H2.keep qv gx; replace qx := Fq.H2.keep qx gx; replace kW := Kp.trans kW gx; replace hTW := hTW.kp gx; clear gx; obtain ⟨x0, x1, x2, x3⟩ := id qx) | (go_at_call 13; refine (hI 13 _ _ _ _ _ _ (by with_reducible first | exact fi0 | exact fi1 | exact fi2 | exact fi3) _ hTW).mono ?_; rintro e wx ⟨rfl, gx⟩; replace qv := Fq.H2.keep qv gx; replace qx := Fq.H2.keep qx gx; replace kW := Kp.trans kW gx; replace hTW := hTW.kp gx; clear gx; obtain ⟨x0, x1, x2, x3⟩ := id qx) | (go_at_call 14; refine (hI 14 _ _ _ _ _ _ (by with_reducible first | exact fi0 | exact fi1 | exact fi2 | exact fi3) _ hTW).mono ?_; rintro e wx ⟨rfl, gx⟩; replace qv := Fq.H2.keep qv gx; replace qx := Fq.H2.keep qx gx; replace kW := Kp.trans kW gx; replace hTW := hTW.kp gx; clear gx; obtain ⟨x0, x1, x2, x3⟩ := id qx) | (go_at_call 15; refine (hU 15 _ _ _ _ (by with_reducible first | exact fu0 | exact fu1 | exact fu2 | exact fu3) _ hTW).mono ?_; rintro e wx ⟨rfl, gx⟩; replace qv := Fq.H2.keep qv gx; replace qx := Fq.H2.keep qx gx; replace kW := Kp.trans kW gx; replace hTW := hTW.kp gx; clear gx; obtain ⟨x0, x1, x2, x3⟩ := id qx) | (go_at_call 16; refine (hU 16 _ _ _ _ (by with_reducible first | exact fu0 | exact fu1 | exact fu2 | exact fu3) _ hTW).mono ?_; rintro e wx ⟨rfl, gx⟩; replace qv := Fq.H2.keep qv gx; replace qx := Fq.H2.keep qx gx; replace kW := Kp.trans kW gx; replace hTW := hTW.kp gx; clear gx; obtain ⟨x0, x1, x2, x3⟩ := id qx) | (go_at_call 17; refine (hU 17 _ _ _ _ (by with_reducible first | exact fu0 | exact fu1 | exact fu2 | exact fu3) _ hTW).mono ?_; rintro e wx ⟨rfl, gx⟩; replace qv := Fq.H2.keep qv gx; replace qx := Fq.H2.keep qx gx; replace kW := Kp.trans kW gx; replace hTW := hTW.kp gx; clear gx; obtain ⟨x0, x1, x2, x3⟩ := id qx))
  clear x0 x1 x2 x3
  generalize wx = W at qv qx kW hTW ⊢
  go_upto_region 27 with fail
  go_cut [121] (fun s121 wx => s121 = .bool false ∧ Kp W wx)
  case first =>
    (
      refine Fq.wp_region_grow (by kernel_rfl) (by kernel_rfl) (fun ι _ G hG hall => ?_)
      have tG : ∀ n, TT (G n) := fun n => hTW.kp (hG n)
      have cc0 : ∀ n, (G n).cell? ⟨w.heap.size, 0, none⟩ = some (.float .f64 9218868437227405312) := fun n => Fq.gkeep (hG n) qv.1
      have cc1 : ∀ n, (G n).cell? ⟨w.heap.size, 1, none⟩ = some (.float .f64 18442240474082181120) := fun n => Fq.gkeep (hG n) qv.2.1
      repeat (go_big_quiet_step (first | (go_at_call 12; exact (hI 12 _ _ _ _ _ _ (by with_reducible first | exact fi0 | exact fi1 | exact fi2 | exact fi3) _ (tG _)).mono (fun e w' h => ⟨h.1, hall _ (Fq.gtrans (hG _) h.2)⟩)) | (go_at_call 13; exact (hI 13 _ _ _ _ _ _ (by with_reducible first | exact fi0 | exact fi1 | exact fi2 | exact fi3) _ (tG _)).mono (fun e w' h => ⟨h.1, hall _ (Fq.gtrans (hG _) h.2)⟩)) | (go_at_call 14; exact (hI 14 _ _ _ _ _ _ (by with_reducible first | exact fi0 | exact fi1 | exact fi2 | exact fi3) _ (tG _)).mono (fun e w' h => ⟨h.1, hall _ (Fq.gtrans (hG _) h.2)⟩)) | (go_at_call 15; exact (hU 15 _ _ _ _ (by with_reducible first | exact fu0 | exact fu1 | exact fu2 | exact fu3) _ (tG _)).mono (fun e w' h => ⟨h.1, hall _ (Fq.gtrans (hG _) h.2)⟩)) | (go_at_call 16; exact (hU 16 _ _ _ _ (by with_reducible first | exact fu0 | exact fu1 | exact fu2 | exact fu3) _ (tG _)).mono (fun e w' h => ⟨h.1, hall _ (Fq.gtrans (hG _) h.2)⟩)) | (go_at_call 17; exact (hU 17 _ _ _ _ (by with_reducible first | exact fu0 | exact fu1 | exact fu2 | exact fu3) _ (tG _)).mono (fun e w' h => ⟨h.1, hall _ (Fq.gtrans (hG _) h.2)⟩))))
      refine wpQuiet_nil ?_
      rintro _ ⟨nq, rfl⟩
      have gq : Kp W (G nq) := hG nq
      clear cc0 cc1 hall hG tG
      go_wp2_with fail
      go_meet
      exact ⟨rfl, gq⟩)
  case rest =>
  obtain ⟨rfl, gw⟩ := hcut
  replace qv := Fq.H2.keep qv gw
  replace hTW := hTW.kp gw
  replace kW := Kp.trans kW gw
  clear gw
  generalize wc = W at qv hTW kW ⊢
  go_wp2_with (first | (go_at_call 18; refine (hF _ hTW).mono ?_; rintro e wx ⟨rfl, gx⟩; replace kW := Kp.trans kW gx))
  exact bodyPost_ret (v := .bool true) (by simp [results, Tryz.results3, go_sem]) rfl ⟨rfl, kW⟩
end Go.Proofs.YtkheefoabcibkaaGreatDoor
namespace Go.Proofs.YtkheefoabcibkaaGreatDoor
open Go.RowKit
namespace Fq
set_option maxRecDepth 20000 in
set_option maxHeartbeats 1000000 in
theorem new_ (a b : Nat) (ha : a < 18446744073709551616) (hb : b < 18446744073709551616) (w : World) : Calls Tryz.prog 11 #[.float .f64 a, .float .f64 b] w fun e w' => e = .returned (.tuple #[.agg #[.float .f64 (nlo a b), .float .f64 (nhi a b)], .int .i64 (ner a b)]) ∧ Grown w w' := by
  have hr := read_ a b ha hb
  have hv := void_ (rlo a b) (rhi a b) (rlo_lt a b ha) (rhi_lt a b hb)
  rw [void_read] at hv
  by_cases c : snd a b = true
  · rw [c] at hv
    rw [show nlo a b = rlo a b from by simp [nlo, rlo, c], show nhi a b = rhi a b from by simp [nhi, rhi, c], show ner a b = 0 from by simp [ner, c]]
    clear c ha hb
    generalize rlo a b = LO at hr hv ⊢
    generalize rhi a b = HI at hr hv ⊢
    go_enter Tryz.func11, Tryz.ntmps11
    go_wp2_with (first | (go_at_call 28; refine (hr _).mono ?_; rintro e w1 ⟨rfl, g1⟩; have q0 := (H2.new w (.float .f64 0) (.float .f64 0) 25).keep g1) | (go_at_call 29; refine (hv _).mono ?_; rintro e w3 ⟨rfl, g2⟩; obtain ⟨k0, k1, z0, z1⟩ := ((H2.past q0 #[.float .f64 LO, .float .f64 HI] 25)).keep g2; obtain ⟨x0, x1, y0, y1⟩ := (H2.new w1 (.float .f64 LO) (.float .f64 HI) 25).keep g2))
    exact bodyPost_ret (v := .tuple #[.agg #[.float .f64 LO, .float .f64 HI], .int .i64 0]) (by simp [results, Tryz.results11, go_sem, k0, k1]) rfl ⟨rfl, (by repeat (with_reducible (first | assumption | exact Grown.refl _ | apply Grown.drew | apply Grown.alloc | apply gdrewN | (refine Grown.setCell ?_ (by simp <;> omega) _) | (refine gtrans ?_ (by assumption)))))⟩
  · have c : snd a b = false := by simpa using c
    rw [c] at hv
    rw [show nlo a b = 0 from by simp [nlo, c], show nhi a b = 0 from by simp [nhi, c], show ner a b = 1 from by simp [ner, c]]
    clear c ha hb
    generalize rlo a b = LO at hr hv ⊢
    generalize rhi a b = HI at hr hv ⊢
    go_enter Tryz.func11, Tryz.ntmps11
    go_wp2_with (first | (go_at_call 28; refine (hr _).mono ?_; rintro e w1 ⟨rfl, g1⟩; have q0 := (H2.new w (.float .f64 0) (.float .f64 0) 25).keep g1) | (go_at_call 29; refine (hv _).mono ?_; rintro e w3 ⟨rfl, g2⟩; obtain ⟨k0, k1, z0, z1⟩ := ((H2.past q0 #[.float .f64 LO, .float .f64 HI] 25)).keep g2; obtain ⟨x0, x1, y0, y1⟩ := (H2.new w1 (.float .f64 LO) (.float .f64 HI) 25).keep g2))
    exact bodyPost_ret (v := .tuple #[.agg #[.float .f64 0, .float .f64 0], .int .i64 1]) (by simp [results, Tryz.results11, go_sem, k0, k1]) rfl ⟨rfl, (by repeat (with_reducible (first | assumption | exact Grown.refl _ | apply Grown.drew | apply Grown.alloc | apply gdrewN | (refine Grown.setCell ?_ (by simp <;> omega) _) | (refine gtrans ?_ (by assumption)))))⟩
end Fq
end Go.Proofs.YtkheefoabcibkaaGreatDoor
namespace Go.Proofs.YtkheefoabcibkaaGreatDoor
open Go.RowKit
set_option linter.unusedVariables false
theorem Rd.lit (a b : Nat) (L H : Int) (ea : pw L = a) (eb : pw H = b) (h : decide ((L = 9218868437227405312 ∧ H = -9218868437227405312) ∨ (-9218868437227405312 ≤ L ∧ L < 9218868437227405312 ∧ -9218868437227405312 < H ∧ H ≤ 9218868437227405312 ∧ L ≤ H)) = true) : Rd a b L H := by
  have v : VdZ L H := by unfold VdZ; exact of_decide_eq_true h
  have r := Rd.of v
  rw [ea, eb] at r
  exact r
theorem kn0_ (w : World) (hT : TT w) : Calls Tryz.prog 12 #[.agg #[.float .f64 9218868437227405311, .float .f64 9218868437227405311], .agg #[.float .f64 9218868437227405311, .float .f64 9218868437227405311]] w fun e w' => e = .returned (.agg #[.float .f64 9218868437227405311, .float .f64 9218868437227405312]) ∧ Kp w w' := by
  have h := add9_ 9218868437227405311 9218868437227405311 9218868437227405311 9218868437227405311 (9218868437227405311 : Int) (9218868437227405311 : Int) (9218868437227405311 : Int) (9218868437227405311 : Int) (Rd.lit 9218868437227405311 9218868437227405311 (9218868437227405311 : Int) (9218868437227405311 : Int) (by decide) (by decide) (by decide)) (Rd.lit 9218868437227405311 9218868437227405311 (9218868437227405311 : Int) (9218868437227405311 : Int) (by decide) (by decide) (by decide)) w hT
  rw [show pw (aLo (9218868437227405311 : Int) (9218868437227405311 : Int) (9218868437227405311 : Int) (9218868437227405311 : Int)) = 9218868437227405311 from by decide +kernel, show pw (aHi (9218868437227405311 : Int) (9218868437227405311 : Int) (9218868437227405311 : Int) (9218868437227405311 : Int)) = 9218868437227405312 from by decide +kernel] at h
  exact h
theorem kn1_ (w : World) (hT : TT w) : Calls Tryz.prog 13 #[.agg #[.float .f64 1, .float .f64 1], .agg #[.float .f64 1, .float .f64 1]] w fun e w' => e = .returned (.agg #[.float .f64 0, .float .f64 1]) ∧ Kp w w' := by
  have h := mul9_ 1074 rfl 1 1 1 1 (1 : Int) (1 : Int) (1 : Int) (1 : Int) (Rd.lit 1 1 (1 : Int) (1 : Int) (by decide) (by decide) (by decide)) (Rd.lit 1 1 (1 : Int) (1 : Int) (by decide) (by decide) (by decide)) w hT
  rw [show pw (mLo 1074 (1 : Int) (1 : Int) (1 : Int) (1 : Int)) = 0 from by decide +kernel, show pw (mHi 1074 (1 : Int) (1 : Int) (1 : Int) (1 : Int)) = 1 from by decide +kernel] at h
  exact h
theorem kn2_ (w : World) (hT : TT w) : Calls Tryz.prog 14 #[.agg #[.float .f64 4607182418800017408, .float .f64 4611686018427387904], .agg #[.float .f64 13839561654909534208, .float .f64 0]] w fun e w' => e = .returned (.agg #[.float .f64 18442240474082181120, .float .f64 13821547256400052224]) ∧ Kp w w' := by
  have h := div9_ 1074 rfl 4607182418800017408 4611686018427387904 13839561654909534208 0 (4607182418800017408 : Int) (4611686018427387904 : Int) (-4616189618054758400 : Int) (0 : Int) (Rd.lit 4607182418800017408 4611686018427387904 (4607182418800017408 : Int) (4611686018427387904 : Int) (by decide) (by decide) (by decide)) (Rd.lit 13839561654909534208 0 (-4616189618054758400 : Int) (0 : Int) (by decide) (by decide) (by decide)) w hT
  rw [show pw (dLo 1074 (4607182418800017408 : Int) (4611686018427387904 : Int) (-4616189618054758400 : Int) (0 : Int)) = 18442240474082181120 from by decide +kernel, show pw (dHi 1074 (4607182418800017408 : Int) (4611686018427387904 : Int) (-4616189618054758400 : Int) (0 : Int)) = 13821547256400052224 from by decide +kernel] at h
  exact h
theorem kn3_ (w : World) (hT : TT w) : Calls Tryz.prog 14 #[.agg #[.float .f64 4607182418800017408, .float .f64 9218868437227405312], .agg #[.float .f64 4611686018427387904, .float .f64 9218868437227405312]] w fun e w' => e = .returned (.agg #[.float .f64 0, .float .f64 9218868437227405312]) ∧ Kp w w' := by
  have h := div9_ 1074 rfl 4607182418800017408 9218868437227405312 4611686018427387904 9218868437227405312 (4607182418800017408 : Int) (9218868437227405312 : Int) (4611686018427387904 : Int) (9218868437227405312 : Int) (Rd.lit 4607182418800017408 9218868437227405312 (4607182418800017408 : Int) (9218868437227405312 : Int) (by decide) (by decide) (by decide)) (Rd.lit 4611686018427387904 9218868437227405312 (4611686018427387904 : Int) (9218868437227405312 : Int) (by decide) (by decide) (by decide)) w hT
  rw [show pw (dLo 1074 (4607182418800017408 : Int) (9218868437227405312 : Int) (4611686018427387904 : Int) (9218868437227405312 : Int)) = 0 from by decide +kernel, show pw (dHi 1074 (4607182418800017408 : Int) (9218868437227405312 : Int) (4611686018427387904 : Int) (9218868437227405312 : Int)) = 9218868437227405312 from by decide +kernel] at h
  exact h
theorem ku0_ (w : World) (hT : TT w) : Calls Tryz.prog 15 #[.agg #[.float .f64 0, .float .f64 4611686018427387904]] w fun e w' => e = .returned (.agg #[.float .f64 4602678819172646912, .float .f64 9218868437227405312]) ∧ Kp w w' := by
  have h := recip9_ 1074 rfl 0 4611686018427387904 (0 : Int) (4611686018427387904 : Int) (Rd.lit 0 4611686018427387904 (0 : Int) (4611686018427387904 : Int) (by decide) (by decide) (by decide)) w hT
  rw [show pw (dLo 1074 4607182418800017408 4607182418800017408 (0 : Int) (4611686018427387904 : Int)) = 4602678819172646912 from by decide +kernel, show pw (dHi 1074 4607182418800017408 4607182418800017408 (0 : Int) (4611686018427387904 : Int)) = 9218868437227405312 from by decide +kernel] at h
  exact h
theorem ku1_ (w : World) (hT : TT w) : Calls Tryz.prog 16 #[.agg #[.float .f64 13837309855095848960, .float .f64 4611686018427387904]] w fun e w' => e = .returned (.agg #[.float .f64 0, .float .f64 4621256167635550208]) ∧ Kp w w' := by
  have h := sqr9_ 1074 rfl 13837309855095848960 4611686018427387904 (-4613937818241073152 : Int) (4611686018427387904 : Int) (Rd.lit 13837309855095848960 4611686018427387904 (-4613937818241073152 : Int) (4611686018427387904 : Int) (by decide) (by decide) (by decide)) w hT
  rw [show pw (sLo 1074 (-4613937818241073152 : Int) (4611686018427387904 : Int)) = 0 from by decide +kernel, show pw (sHi 1074 (-4613937818241073152 : Int) (4611686018427387904 : Int)) = 4621256167635550208 from by decide +kernel] at h
  exact h
theorem ku2_ (w : World) (hT : TT w) : Calls Tryz.prog 17 #[.agg #[.float .f64 4611686018427387904, .float .f64 4611686018427387904]] w fun e w' => e = .returned (.agg #[.float .f64 4609047870845172684, .float .f64 4609047870845172685]) ∧ Kp w w' := by
  have h := sqrt9_ 4611686018427387904 4611686018427387904 (4611686018427387904 : Int) (4611686018427387904 : Int) (Rd.lit 4611686018427387904 4611686018427387904 (4611686018427387904 : Int) (4611686018427387904 : Int) (by decide) (by decide) (by decide)) w hT
  rw [show rLo (4611686018427387904 : Int) (4611686018427387904 : Int) = 4609047870845172684 from by decide +kernel, show rHi (4611686018427387904 : Int) (4611686018427387904 : Int) = 4609047870845172685 from by decide +kernel] at h
  exact h
theorem ku3_ (w : World) (hT : TT w) : Calls Tryz.prog 17 #[.agg #[.float .f64 13835058055282163712, .float .f64 13830554455654793216]] w fun e w' => e = .returned (.agg #[.float .f64 9218868437227405312, .float .f64 18442240474082181120]) ∧ Kp w w' := by
  have h := sqrt9_ 13835058055282163712 13830554455654793216 (-4611686018427387904 : Int) (-4607182418800017408 : Int) (Rd.lit 13835058055282163712 13830554455654793216 (-4611686018427387904 : Int) (-4607182418800017408 : Int) (by decide) (by decide) (by decide)) w hT
  rw [show rLo (-4611686018427387904 : Int) (-4607182418800017408 : Int) = 9218868437227405312 from by decide +kernel, show rHi (-4611686018427387904 : Int) (-4607182418800017408 : Int) = 18442240474082181120 from by decide +kernel] at h
  exact h
theorem kw0_ (w : World) : Calls Tryz.prog 11 #[.float .f64 4607182418800017408, .float .f64 4611686018427387904] w fun e w' => e = .returned (.tuple #[.agg #[.float .f64 4607182418800017408, .float .f64 4611686018427387904], .int .i64 0]) ∧ Kp w w' := by
  have h := Fq.new_ 4607182418800017408 4611686018427387904 (by decide) (by decide) w
  rw [show Fq.nlo 4607182418800017408 4611686018427387904 = 4607182418800017408 from by decide +kernel, show Fq.nhi 4607182418800017408 4611686018427387904 = 4611686018427387904 from by decide +kernel, show Fq.ner 4607182418800017408 4611686018427387904 = 0 from by decide +kernel] at h
  exact h
theorem kw1_ (w : World) : Calls Tryz.prog 11 #[.float .f64 4611686018427387904, .float .f64 4607182418800017408] w fun e w' => e = .returned (.tuple #[.agg #[.float .f64 0, .float .f64 0], .int .i64 1]) ∧ Kp w w' := by
  have h := Fq.new_ 4611686018427387904 4607182418800017408 (by decide) (by decide) w
  rw [show Fq.nlo 4611686018427387904 4607182418800017408 = 0 from by decide +kernel, show Fq.nhi 4611686018427387904 4607182418800017408 = 0 from by decide +kernel, show Fq.ner 4611686018427387904 4607182418800017408 = 1 from by decide +kernel] at h
  exact h
theorem kw2_ (w : World) : Calls Tryz.prog 11 #[.float .f64 9218868437227405312, .float .f64 18442240474082181120] w fun e w' => e = .returned (.tuple #[.agg #[.float .f64 0, .float .f64 0], .int .i64 1]) ∧ Kp w w' := by
  have h := Fq.new_ 9218868437227405312 18442240474082181120 (by decide) (by decide) w
  rw [show Fq.nlo 9218868437227405312 18442240474082181120 = 0 from by decide +kernel, show Fq.nhi 9218868437227405312 18442240474082181120 = 0 from by decide +kernel, show Fq.ner 9218868437227405312 18442240474082181120 = 1 from by decide +kernel] at h
  exact h
theorem kf_ (w : World) (hT : TT w) : Calls Tryz.prog 18 #[.agg #[.float .f64 9218868437227405311, .float .f64 9218868437227405311], .agg #[.float .f64 4611686018427387904, .float .f64 4611686018427387904], .agg #[.float .f64 18442240474082181119, .float .f64 18442240474082181119]] w fun e w' => e = .returned (.agg #[.float .f64 9218868437227405311, .float .f64 9218868437227405311]) ∧ Kp w w' := by
  have h := fma9_ 1074 rfl 9218868437227405311 9218868437227405311 4611686018427387904 4611686018427387904 18442240474082181119 18442240474082181119 (9218868437227405311 : Int) (9218868437227405311 : Int) (4611686018427387904 : Int) (4611686018427387904 : Int) (-9218868437227405311 : Int) (-9218868437227405311 : Int) (Rd.lit 9218868437227405311 9218868437227405311 (9218868437227405311 : Int) (9218868437227405311 : Int) (by decide) (by decide) (by decide)) (Rd.lit 4611686018427387904 4611686018427387904 (4611686018427387904 : Int) (4611686018427387904 : Int) (by decide) (by decide) (by decide)) (Rd.lit 18442240474082181119 18442240474082181119 (-9218868437227405311 : Int) (-9218868437227405311 : Int) (by decide) (by decide) (by decide)) w hT
  rw [show pw (fLo 1074 (9218868437227405311 : Int) (9218868437227405311 : Int) (4611686018427387904 : Int) (4611686018427387904 : Int) (-9218868437227405311 : Int) (-9218868437227405311 : Int)) = 9218868437227405311 from by decide +kernel, show pw (fHi 1074 (9218868437227405311 : Int) (9218868437227405311 : Int) (4611686018427387904 : Int) (4611686018427387904 : Int) (-9218868437227405311 : Int) (-9218868437227405311 : Int)) = 9218868437227405311 from by decide +kernel] at h
  exact h
theorem ivknown_ (w : World) (hT : Tab w) (hQ : Fq.Tab w) : Calls Tryz.prog 3 #[] w fun e w' => e = .returned (.bool true) ∧ Kp w w' :=
  known6A_ (fun f x1 x2 y1 y2 z1 z2 => ∀ w : World, TT w → Calls Tryz.prog f #[.agg #[.float .f64 x1, .float .f64 x2], .agg #[.float .f64 y1, .float .f64 y2]] w fun e w' => e = .returned (.agg #[.float .f64 z1, .float .f64 z2]) ∧ Kp w w') (fun f x1 x2 z1 z2 => ∀ w : World, TT w → Calls Tryz.prog f #[.agg #[.float .f64 x1, .float .f64 x2]] w fun e w' => e = .returned (.agg #[.float .f64 z1, .float .f64 z2]) ∧ Kp w w') (fun x1 x2 z1 z2 E => ∀ w : World, Calls Tryz.prog 11 #[.float .f64 x1, .float .f64 x2] w fun e w' => e = .returned (.tuple #[.agg #[.float .f64 z1, .float .f64 z2], .int .i64 E]) ∧ Kp w w') (fun _ _ _ _ _ _ _ h => h) (fun _ _ _ _ _ h => h) (fun _ _ _ _ _ h => h) kf_ empty9_ entire9_ awake6_ kn0_ kn1_ kn2_ kn3_ ku0_ ku1_ ku2_ ku3_ kw0_ kw1_ kw2_ w ⟨hT, hQ⟩
end Go.Proofs.YtkheefoabcibkaaGreatDoor
