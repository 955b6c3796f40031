import Derived.Test.YtfhcmabejagknaaGreatDoorKXA0
import Derived.Test.YtfhcmabejagknaaGreatDoorKXQU
import Derived.Deep.Cut
import Derived.Deep.MidRow
import Derived.Deep.RegionWith
import Derived.Deep.WholeRow
import Derived.Laws.Bits64
import Derived.Laws.Externs
import Derived.Lib.Zigzag
set_option maxHeartbeats 1000000
set_option maxRecDepth 20000
namespace Go.Proofs.YtfhcmabejagknaaGreatDoor
open Go.RowKit
def wv:List Nat→Nat
  | []=>0
  | x :: xs=>x + 18446744073709551616 * wv xs
def Wf (ws:List Nat):Prop:=∀ j,ws.getD j 0 < 18446744073709551616
theorem wv_set (ws:List Nat):∀ (k x:Nat),k < ws.length→wv (ws.set k x) + ws.getD k 0 * 18446744073709551616 ^ k = wv ws + x * 18446744073709551616 ^ k:=by
  induction ws with
  | nil=>intro k x h;simp at h
  | cons y ys ih =>
    intro k x h
    cases k with
    | zero=>simp [wv];omega
    | succ k =>
      have e:=ih k x (by simpa using h)
      simp only [List.set_cons_succ,wv,List.getD_cons_succ,Nat.pow_succ]
      generalize 18446744073709551616 ^ k = P at *
      have e2:=congrArg (fun z=>18446744073709551616 * z) e
      simp only [Nat.mul_add] at e2
      rw [show ys.getD k 0 * (P * 18446744073709551616) = 18446744073709551616 * (ys.getD k 0 * P) by rw [← Nat.mul_assoc,Nat.mul_comm],show x * (P * 18446744073709551616) = 18446744073709551616 * (x * P) by rw [← Nat.mul_assoc,Nat.mul_comm]]
      omega
theorem Wf.cons {x:Nat} {xs:List Nat} (h:Wf (x :: xs)):x < 18446744073709551616∧Wf xs:=by
  refine ⟨by simpa using h 0,fun j=>?_⟩
  have:=h (j + 1)
  simpa using this
theorem Wf.set {ws:List Nat} (h:Wf ws) (k x:Nat) (hx:x < 18446744073709551616):Wf (ws.set k x):=by
  intro j
  by_cases c:k = j
  · subst c
    by_cases d:k < ws.length
    · simpa [List.getD,List.getElem?_set,d] using hx
    · simp [List.getD,d]
  · have:=h j;simpa [List.getD,List.getElem?_set,c] using this
theorem wv_lt (ws:List Nat) (h:Wf ws):wv ws < 18446744073709551616 ^ ws.length:=by
  induction ws with
  | nil=>simp [wv]
  | cons x xs ih =>
    have hc:=h.cons
    have:=ih hc.2
    simp only [wv,List.length_cons,Nat.pow_succ]
    generalize 18446744073709551616 ^ xs.length = P at *
    omega
theorem wv_take_succ (ws:List Nat):∀ (i:Nat),i < ws.length→wv (ws.take (i + 1)) = wv (ws.take i) + ws.getD i 0 * 18446744073709551616 ^ i:=by
  induction ws with
  | nil=>intro i h;simp at h
  | cons y ys ih =>
    intro i h
    cases i with
    | zero=>simp [wv]
    | succ i =>
      have e:=ih i (by simpa using h)
      simp only [List.take_succ_cons,wv,List.getD_cons_succ,Nat.pow_succ] at e ⊢
      rw [e,Nat.mul_add]
      generalize 18446744073709551616 ^ i = P
      rw [show ys.getD i 0 * (P * 18446744073709551616) = 18446744073709551616 * (ys.getD i 0 * P) by rw [← Nat.mul_assoc,Nat.mul_comm]]
      omega
theorem take_set_self (ws:List Nat) (i x:Nat):(ws.set i x).take i = ws.take i:=by
  apply List.ext_getElem?
  intro j
  by_cases c:j < i
  · have:i≠j:=by omega
    simp [c,this]
  · simp [List.getElem?_take,c]
theorem getD_set_self (ws:List Nat) (i x:Nat) (h:i < ws.length):(ws.set i x).getD i 0 = x:=by simp [List.getD,h]
theorem getD_set_ne (ws:List Nat) (i j x:Nat) (h:i≠j):(ws.set i x).getD j 0 = ws.getD j 0:=by simp [List.getD,h]
def wm:Nat:=18446744073709551616 ^ 67
def Rep (ws:List Nat) (V:Int):Prop:=ws.length = 67∧Wf ws∧∃ k:Int,((wv ws:Nat):Int) = V + k * (wm:Int)
theorem Wf.zero (n:Nat):Wf (List.replicate n 0):=by
  intro j
  by_cases c:j < n
  · simp [List.getD,c]
  · simp [List.getD,c]
theorem wv_zero (n:Nat):wv (List.replicate n 0) = 0:=by
  induction n with
  | zero=>rfl
  | succ n ih=>rw [List.replicate_succ];simp [wv,ih]
theorem Rep.zero:Rep (List.replicate 67 0) 0:=by
  refine ⟨List.length_replicate,Wf.zero _,0, ?_⟩
  rw [wv_zero];simp
def Lay (ws0 ws:List Nat) (sg:Int) (k c:Nat) (S:Nat):Prop:=ws.length = 67∧Wf ws∧c≤1∧((wv ws:Nat):Int) + sg * ((18446744073709551616 ^ k * c:Nat):Int) = ((wv ws0:Nat):Int) + sg * (S:Int)
theorem Lay.start {ws:List Nat} {sg:Int} (k:Nat) (h:ws.length = 67) (hf:Wf ws):Lay ws ws sg k 0 0:=⟨h,hf,by omega,by simp⟩
theorem Lay.next {ws0 ws:List Nat} {sg:Int} {k c S:Nat} (h:Lay ws0 ws sg k c S) (hk:k < 67) (p x c2:Nat) (hx:x < 18446744073709551616) (hc2:c2≤1) (e:(x:Int) + sg * 18446744073709551616 * (c2:Int) = ((ws.getD k 0:Nat):Int) + sg * ((p:Int) + (c:Int))) :
    Lay ws0 (ws.set k x) sg (k + 1) c2 (S + p * 18446744073709551616 ^ k):=by
  obtain ⟨h1,h2,h3,h4⟩:=h
  refine ⟨by simpa using h1,h2.set k x hx,hc2, ?_⟩
  have q:=wv_set ws k x (by omega)
  have q2:((wv (ws.set k x):Nat):Int) + ((ws.getD k 0:Nat):Int) * ((18446744073709551616 ^ k:Nat):Int) = ((wv ws:Nat):Int) + (x:Int) * ((18446744073709551616 ^ k:Nat):Int):=by exact_mod_cast q
  rw [Nat.pow_succ]
  generalize 18446744073709551616 ^ k = P at *
  generalize wv (ws.set k x) = A at *
  generalize wv ws = B at *
  generalize wv ws0 = C at *
  generalize ws.getD k 0 = y at *
  simp only [Int.natCast_mul,Int.natCast_add] at *
  clear q h2 hx
  have e2:((x:Int) + sg * 18446744073709551616 * (c2:Int)) * (P:Int) = ((y:Int) + sg * ((p:Int) + (c:Int))) * (P:Int):=by rw [e]
  clear e
  grind
theorem Lay.next0 {ws0 ws:List Nat} {sg:Int} {k c S:Nat} (h:Lay ws0 ws sg k c S) (hk:k < 67) (x c2:Nat) (hx:x < 18446744073709551616) (hc2:c2≤1) (e:(x:Int) + sg * 18446744073709551616 * (c2:Int) = ((ws.getD k 0:Nat):Int) + sg * (((0:Nat):Int) + (c:Int))):Lay ws0 (ws.set k x) sg (k + 1) c2 S:=by
  have q:=h.next hk 0 x c2 hx hc2 e
  rw [Nat.zero_mul,Nat.add_zero] at q
  exact q
theorem Lay.quick {ws0 ws:List Nat} {sg:Int} {k S:Nat} (h:Lay ws0 ws sg k 0 S) (k2:Nat):Lay ws0 ws sg k2 0 S:=by
  obtain ⟨h1,h2,h3,h4⟩:=h
  exact ⟨h1,h2,h3,by simpa using h4⟩
theorem Lay.rep {ws0 ws:List Nat} {sg:Int} {c S:Nat} {V:Int} (h:Lay ws0 ws sg 67 c S) (h0:Rep ws0 V):Rep ws (V + sg * (S:Int)):=by
  obtain ⟨h1,h2,h3,h4⟩:=h
  obtain ⟨g1,g2,k,g3⟩:=h0
  refine ⟨h1,h2,k - sg * (c:Int), ?_⟩
  rw [g3] at h4
  have e:((18446744073709551616 ^ 67 * c:Nat):Int) = (wm:Int) * (c:Int):=by rw [Int.natCast_mul];rfl
  rw [e] at h4
  rw [Int.sub_mul]
  have e2:sg * ((wm:Int) * (c:Int)) = sg * (c:Int) * (wm:Int):=by rw [Int.mul_comm (wm:Int),← Int.mul_assoc]
  rw [e2] at h4
  generalize sg * (c:Int) * (wm:Int) = X at *
  generalize k * (wm:Int) = Y at *
  omega
theorem step_plus (y p c:Nat):(((y + p + c) % 18446744073709551616:Nat):Int) + 1 * 18446744073709551616 * (((y + p + c) / 18446744073709551616:Nat):Int) = (y:Int) + 1 * ((p:Int) + (c:Int)):=by omega
theorem step_minus (y p c:Nat) (hy:y < 18446744073709551616):((18446744073709551615 - (18446744073709551615 - y + p + c) % 18446744073709551616:Nat):Int) + (-1) * 18446744073709551616 * (((18446744073709551615 - y + p + c) / 18446744073709551616:Nat):Int) = (y:Int) + (-1) * ((p:Int) + (c:Int)):=by omega
theorem step_c (y p c:Nat) (hy:y < 18446744073709551616) (hp:p < 18446744073709551616) (hc:c≤1):(y + p + c) / 18446744073709551616≤1:=by omega
theorem parts3 (h l u:Nat):l * 2 ^ u % 18446744073709551616 + (h * 2 ^ u % 18446744073709551616 + l * 2 ^ u / 18446744073709551616) * 18446744073709551616 + (h * 2 ^ u / 18446744073709551616) * (18446744073709551616 * 18446744073709551616) = (h * 18446744073709551616 + l) * 2 ^ u:=by
  rw [Nat.add_mul (h * 18446744073709551616),show h * 18446744073709551616 * 2 ^ u = h * 2 ^ u * 18446744073709551616 by rw [Nat.mul_right_comm]]
  generalize h * 2 ^ u = A
  generalize l * 2 ^ u = B
  omega
/-! the two's complement -/
def wh:Nat:=9223372036854775808 * 18446744073709551616 ^ 66
theorem wm_wh:wm = 2 * wh:=by
  unfold wm wh
  rw [show (67:Nat) = 66 + 1 from rfl,Nat.pow_succ]
theorem wv_top (ws:List Nat) (hl:ws.length = 67) (hf:Wf ws):(9223372036854775808≤ws.getD 66 0 ↔ wh≤wv ws):=by
  have e:=wv_take_succ ws 66 (by omega)
  rw [List.take_of_length_le (by omega)] at e
  have l:=wv_lt (ws.take 66) (fun j=>by
    by_cases c:j < 66
    · have:=hf j;simpa [List.getD,List.getElem?_take,c] using this
    · simp [List.getD,List.getElem?_take,c])
  rw [List.length_take,hl,show min 66 67 = 66 from rfl] at l
  rw [e]
  unfold wh
  generalize 18446744073709551616 ^ 66 = P at *
  generalize wv (ws.take 66) = A at *
  generalize ws.getD 66 0 = y
  constructor
  · intro h
    have:=Nat.mul_le_mul_right P h
    omega
  · intro h
    apply Classical.byContradiction
    intro c
    have:=Nat.mul_le_mul_right P (show y + 1≤9223372036854775808 by omega)
    rw [Nat.add_mul] at this
    omega
theorem Rep.val {ws:List Nat} {V:Int} (h:Rep ws V) (b:V.natAbs < wh):((wv ws:Nat):Int) = if V < 0 then V + (wm:Int) else V:=by
  obtain ⟨h1,h2,k,h3⟩:=h
  have l:=wv_lt ws h2
  rw [h1] at l
  have l2:wv ws < wm:=l
  have e:=wm_wh
  have k0:k = if V < 0 then 1 else 0:=by
    by_cases c:V < 0
    · rw [if_pos c]
      rcases Int.lt_trichotomy k 1 with hk | hk | hk
      · have:=Int.mul_le_mul_of_nonneg_right (show k≤0 by omega) (show (0:Int)≤(wm:Int) by omega)
        omega
      · exact hk
      · have:=Int.mul_le_mul_of_nonneg_right (show 2≤k by omega) (show (0:Int)≤(wm:Int) by omega)
        omega
    · rw [if_neg c]
      rcases Int.lt_trichotomy k 0 with hk | hk | hk
      · have:=Int.mul_le_mul_of_nonneg_right (show k≤-1 by omega) (show (0:Int)≤(wm:Int) by omega)
        omega
      · exact hk
      · have:=Int.mul_le_mul_of_nonneg_right (show 1≤k by omega) (show (0:Int)≤(wm:Int) by omega)
        omega
  rw [h3,k0]
  by_cases c:V < 0
  · rw [if_pos c,if_pos c];omega
  · rw [if_neg c,if_neg c];omega
theorem Rep.below {ws:List Nat} {V:Int} (h:Rep ws V) (b:V.natAbs < wh):(9223372036854775808≤ws.getD 66 0 ↔ V < 0):=by
  rw [wv_top ws h.1 h.2.1]
  have e:=h.val b
  have e2:=wm_wh
  by_cases c:V < 0
  · rw [if_pos c] at e;omega
  · rw [if_neg c] at e;omega
theorem wv_eq_zero (ws:List Nat) (h:wv ws = 0):ws = List.replicate ws.length 0:=by
  induction ws with
  | nil=>rfl
  | cons x xs ih =>
    simp only [wv] at h
    rw [List.length_cons,List.replicate_succ,← ih (by omega),show x = 0 by omega]
theorem Rep.iszero {ws:List Nat} {V:Int} (h:Rep ws V) (b:V.natAbs < wh):(ws = List.replicate 67 0 ↔ V = 0):=by
  have e:=h.val b
  have e2:=wm_wh
  constructor
  · intro c
    rw [c,wv_zero] at e
    by_cases c2:V < 0
    · rw [if_pos c2] at e;omega
    · rw [if_neg c2] at e;omega
  · intro c
    rw [c,if_neg (by omega)] at e
    have:=wv_eq_zero ws (by omega)
    rw [h.1] at this
    exact this
theorem Rep.plus {a b z:List Nat} {V U:Int} {c:Nat} (ha:Rep a V) (hb:Rep b U) (hl:z.length = 67) (hf:Wf z) (e:wv z + c * wm = wv a + wv b):Rep z (V + U):=by
  obtain ⟨_,_,k,h3⟩:=ha
  obtain ⟨_,_,m,h4⟩:=hb
  refine ⟨hl,hf,k + m - (c:Int), ?_⟩
  have e2:((wv z:Nat):Int) + (c:Int) * (wm:Int) = ((wv a:Nat):Int) + ((wv b:Nat):Int):=by exact_mod_cast e
  rw [h3,h4] at e2
  rw [Int.sub_mul,Int.add_mul]
  generalize k * (wm:Int) = X at *
  generalize m * (wm:Int) = Y at *
  generalize (c:Int) * (wm:Int) = Z at *
  omega
theorem Rep.turned {a z:List Nat} {V:Int} {c:Nat} (ha:Rep a V) (hl:z.length = 67) (hf:Wf z) (e:wv z + c * wm + wv a = wm):Rep z (-V):=by
  obtain ⟨_,_,k,h3⟩:=ha
  refine ⟨hl,hf,1 - (c:Int) - k, ?_⟩
  have e2:((wv z:Nat):Int) + (c:Int) * (wm:Int) + ((wv a:Nat):Int) = (wm:Int):=by exact_mod_cast e
  rw [h3] at e2
  rw [Int.sub_mul,Int.sub_mul,Int.one_mul]
  generalize k * (wm:Int) = X at *
  generalize (c:Int) * (wm:Int) = Z at *
  omega
def Plu (a b z:List Nat) (i c:Nat):Prop:=z.length = 67∧Wf z∧c≤1∧wv (z.take i) + c * 18446744073709551616 ^ i = wv (a.take i) + wv (b.take i)∧∀ j,i≤j→z.getD j 0 = a.getD j 0
theorem Plu.start {a b:List Nat} (h:a.length = 67) (hf:Wf a):Plu a b a 0 0:=⟨h,hf,by omega,by simp [wv],fun _ _=>rfl⟩
theorem Plu.next {a b z:List Nat} {i c:Nat} (h:Plu a b z i c) (ha:a.length = 67) (hb:b.length = 67) (hfa:Wf a) (hfb:Wf b) (hi:i < 67):Plu a b (z.set i ((a.getD i 0 + b.getD i 0 + c) % 18446744073709551616)) (i + 1) ((a.getD i 0 + b.getD i 0 + c) / 18446744073709551616):=by
  obtain ⟨h1,h2,h3,h4,h5⟩:=h
  refine ⟨by simpa using h1,h2.set _ _ (Nat.mod_lt _ (by decide)),step_c _ _ _ (hfa i) (hfb i) h3, ?_,fun j hj=>?_⟩
  · rw [wv_take_succ _ i (by simpa [h1] using hi),take_set_self,getD_set_self _ _ _ (by omega),wv_take_succ a i (by omega),wv_take_succ b i (by omega),Nat.pow_succ]
    have e:=Nat.mod_add_div (a.getD i 0 + b.getD i 0 + c) 18446744073709551616
    generalize 18446744073709551616 ^ i = P at *
    generalize (a.getD i 0 + b.getD i 0 + c) % 18446744073709551616 = r at *
    generalize (a.getD i 0 + b.getD i 0 + c) / 18446744073709551616 = q at *
    generalize a.getD i 0 = x at *
    generalize b.getD i 0 = y at *
    clear h5 h2
    have e2:(r + 18446744073709551616 * q) * P = (x + y + c) * P:=by rw [e]
    simp only [Nat.add_mul] at e2
    have e3:q * (P * 18446744073709551616) = 18446744073709551616 * q * P:=by rw [Nat.mul_comm P,← Nat.mul_assoc,Nat.mul_comm q]
    rw [e3]
    generalize r * P = t1 at *
    generalize 18446744073709551616 * q * P = t2 at *
    generalize x * P = t3 at *
    generalize y * P = t4 at *
    generalize c * P = t5 at *
    omega
  · rw [getD_set_ne _ _ _ _ (by omega)];exact h5 j (by omega)
theorem Plu.rep {a b z:List Nat} {c:Nat} {V U:Int} (h:Plu a b z 67 c) (ha:Rep a V) (hb:Rep b U):Rep z (V + U):=by
  obtain ⟨h1,h2,h3,h4,h5⟩:=h
  rw [List.take_of_length_le (by omega),List.take_of_length_le (by rw [ha.1];omega),List.take_of_length_le (by rw [hb.1];omega)] at h4
  exact Rep.plus ha hb h1 h2 h4
def Trn (a z:List Nat) (i c:Nat):Prop:=z.length = 67∧Wf z∧c≤1∧wv (z.take i) + c * 18446744073709551616 ^ i + wv (a.take i) = 18446744073709551616 ^ i∧∀ j,i≤j→z.getD j 0 = a.getD j 0
theorem Trn.start {a:List Nat} (h:a.length = 67) (hf:Wf a):Trn a a 0 1:=⟨h,hf,by omega,by simp [wv],fun _ _=>rfl⟩
theorem Trn.next {a z:List Nat} {i c:Nat} (h:Trn a z i c) (ha:a.length = 67) (hfa:Wf a) (hi:i < 67):Trn a (z.set i ((18446744073709551615 - a.getD i 0 + 0 + c) % 18446744073709551616)) (i + 1) ((18446744073709551615 - a.getD i 0 + 0 + c) / 18446744073709551616):=by
  obtain ⟨h1,h2,h3,h4,h5⟩:=h
  refine ⟨by simpa using h1,h2.set _ _ (Nat.mod_lt _ (by decide)),step_c _ _ _ (by omega) (by omega) h3, ?_,fun j hj=>?_⟩
  · rw [wv_take_succ _ i (by simpa [h1] using hi),take_set_self,getD_set_self _ _ _ (by omega),wv_take_succ a i (by omega),Nat.pow_succ]
    have f:=hfa i
    have e:=Nat.mod_add_div (18446744073709551615 - a.getD i 0 + 0 + c) 18446744073709551616
    generalize 18446744073709551616 ^ i = P at *
    generalize (18446744073709551615 - a.getD i 0 + 0 + c) % 18446744073709551616 = r at *
    generalize (18446744073709551615 - a.getD i 0 + 0 + c) / 18446744073709551616 = q at *
    generalize a.getD i 0 = x at *
    clear h5 h2
    have e1:r + 18446744073709551616 * q + x = 18446744073709551615 + c:=by omega
    have e2:(r + 18446744073709551616 * q + x) * P = (18446744073709551615 + c) * P:=by rw [e1]
    simp only [Nat.add_mul] at e2
    have e3:q * (P * 18446744073709551616) = 18446744073709551616 * q * P:=by rw [Nat.mul_comm P,← Nat.mul_assoc,Nat.mul_comm q]
    rw [e3]
    generalize r * P = t1 at *
    generalize 18446744073709551616 * q * P = t2 at *
    generalize x * P = t3 at *
    generalize c * P = t5 at *
    omega
  · rw [getD_set_ne _ _ _ _ (by omega)];exact h5 j (by omega)
theorem Trn.rep {a z:List Nat} {c:Nat} {V:Int} (h:Trn a z 67 c) (ha:Rep a V):Rep z (-V):=by
  obtain ⟨h1,h2,h3,h4,h5⟩:=h
  rw [List.take_of_length_le (by omega),List.take_of_length_le (by rw [ha.1];omega)] at h4
  exact Rep.turned ha h1 h2 h4

def wc (ws:List Nat):Array Value:=(ws.map (fun x:Nat=>Value.int .u64 (x:Int))).toArray
theorem wc_size (ws:List Nat):(wc ws).size = ws.length:=by simp [wc]
theorem wc_get (ws:List Nat) (j:Nat) (h:j < ws.length):(wc ws)[j]? = some (.int .u64 ((ws.getD j 0:Nat):Int)):=by
  simp [wc,List.getD,h]
theorem wc_one (ws:List Nat):(wc ws).all (·.oneCell') = true:=by
  simp [wc,Value.oneCell']
theorem infoW:(Tryz.prog.info? 39).map (·.size) = some 67:=by kernel_rfl
theorem undW:Tryz.prog.underlying 39 = some (.array 67 28):=by kernel_rfl
def Bk (w:World) (b:Nat) (C:Array Value) (t:TypeId):Prop:=w.heap[b]? = some (.cells C t (0,0))
theorem Bk.lt {w:World} {b:Nat} {C:Array Value} {t:TypeId} (h:Bk w b C t):b < w.heap.size:=by
  rcases Nat.lt_or_ge b w.heap.size with c | c
  · exact c
  · unfold Bk at h;rw [Array.getElem?_eq_none c] at h;cases h
theorem Bk.cell {w:World} {b:Nat} {C:Array Value} {t:TypeId} (h:Bk w b C t) (j:Nat):w.cell? ⟨b,j,none⟩ = C[j]?:=cell_of_row w b j C t (0,0) h
theorem Bk.frozen {w:World} {b:Nat} {C:Array Value} {t:TypeId} (h:Bk w b C t) (j:Nat):w.frozen? ⟨b,j,none⟩ = false:=by
  unfold Bk at h
  simp [World.frozen?,h]
theorem Bk.new (w:World) (C:Array Value) (t:TypeId):Bk (w.alloc (.cells C t)) w.heap.size C t:=heap_alloc_last w _
theorem Bk.newAt {w:World} {b:Nat} (hb:b = w.heap.size) (C:Array Value) (t:TypeId):Bk (w.alloc (.cells C t)) b C t:=by rw [hb];exact Bk.new w C t
theorem Bk.drew {w:World} {b:Nat} {C:Array Value} {t:TypeId} (h:Bk w b C t):Bk w.drew b C t:=h
theorem Bk.put {w:World} {b:Nat} {C:Array Value} {t:TypeId} (h:Bk w b C t) (j:Nat) (v:Value):Bk (w.setCell ⟨b,j,none⟩ v) b (C.setIfInBounds j v) t:=by
  unfold Bk at h ⊢
  simp [World.setCell,Array.getElem?_modify,h]
theorem Bk.far {w:World} {b:Nat} {C:Array Value} {t:TypeId} (h:Bk w b C t) (x:Addr) (v:Value) (hne:x.block≠b):Bk (w.setCell x v) b C t:=by
  unfold Bk at h ⊢
  simp [World.setCell,Array.getElem?_modify,hne,h]
theorem Bk.kp {w w':World} {b:Nat} {C:Array Value} {t:TypeId} (h:Bk w b C t) (k:Kp w w'):Bk w' b C t:=(Below.block k b h.lt).trans h
theorem Bk.alloc {w:World} {b:Nat} {C:Array Value} {t:TypeId} (h:Bk w b C t) (o:Obj):Bk (w.alloc o) b C t:=h.kp ((Kp.refl w).alloc o)
theorem Kb.of {g:Nat} {w w':World} (k:Kp w w'):Kb g w w':=⟨k.os,k.tape,k.output,k.size,fun i hi _=>Below.block k i hi⟩
theorem Kb.drew {g:Nat} {w w':World} (k:Kb g w w'):Kb g w w'.drew:=k
theorem Kb.trans {g:Nat} {a b c:World} (h:Kb g a b) (k:Kb g b c):Kb g a c:=⟨k.1.trans h.1,k.2.1.trans h.2.1,k.2.2.1.trans h.2.2.1,Nat.le_trans h.2.2.2.1 k.2.2.2.1,fun i hi hne=>(k.2.2.2.2 i (Nat.lt_of_lt_of_le hi h.2.2.2.1) hne).trans (h.2.2.2.2 i hi hne)⟩
theorem Bk.kb {w w':World} {b g:Nat} {C:Array Value} {t:TypeId} (h:Bk w b C t) (k:Kb g w w') (hne:b≠g):Bk w' b C t:=(k.2.2.2.2 b h.lt hne).trans h
theorem Bk.word {w:World} {b:Nat} {ws:List Nat} {X:Array Value} {t:TypeId} (h:Bk w b (wc ws ++ X) t) (j:Nat) (hj:j < ws.length):w.cell? ⟨b,j,none⟩ = some (.int .u64 ((ws.getD j 0:Nat):Int)):=by
  rw [h.cell j,Array.getElem?_append_left (by rw [wc_size];exact hj),wc_get ws j hj]
theorem wc_set (ws:List Nat) (j x:Nat):(wc ws).setIfInBounds j (.int .u64 (x:Int)) = wc (ws.set j x):=by
  simp [wc,List.map_set]
theorem Bk.setw {w:World} {b:Nat} {ws:List Nat} {X:Array Value} {t:TypeId} (h:Bk w b (wc ws ++ X) t) (j x:Nat) (hj:j < ws.length):Bk (w.setCell ⟨b,j,none⟩ (.int .u64 (x:Int))) b (wc (ws.set j x) ++ X) t:=by
  have q:=h.put j (.int .u64 (x:Int))
  rwa [Array.setIfInBounds_append_left (by rw [wc_size];exact hj),wc_set] at q
theorem below_ (ws:List Nat) (hl:ws.length = 67) (hf:Wf ws) (w:World):Calls Tryz.prog 81 #[.agg (wc ws)] w fun e w'=>e = .returned (.bool (decide (9223372036854775808≤ws.getD 66 0)))∧Kp w w':=by
  have hs:=wc_size ws
  rw [hl] at hs
  have hg:=wc_get ws 66 (by omega)
  have hf6:=hf 66
  generalize ws.getD 66 0 = x at *
  generalize wc ws = C at *
  have hg2:∀ (h:66 < C.size),C[66]'h = .int .u64 (x:Int):=fun h=>by
    rw [Array.getElem?_eq_getElem h] at hg;exact Option.some.inj hg
  clear hg hf hl
  obtain ⟨t,ht⟩:∃ t:Bool,t = decide (0 < (x:Int) / 9223372036854775808):=⟨_,rfl⟩
  have e:decide (9223372036854775808≤x) = t:=by rw [ht];congr 1;apply propext;omega
  rw [e]
  clear e
  go_enter Tryz.func81,Tryz.ntmps81
  go_wp2
  simp only [← ht]
  exact bodyPost_ret (v:=.bool t) (by simp [results,Tryz.results81,go_sem]) rfl ⟨rfl,(by repeat (with_reducible (first | assumption | exact Kp.refl _ | apply Kp.drew | apply Kp.alloc | apply Kp.drewN | (refine Kp.setCell ?_ (by first | omega | (simp <;> omega)) _) | (refine Kp.trans ?_ (by assumption)))))⟩

theorem add64_ (x y c:Nat) (hc:c≤1) (w:World):(callFunc 78 #[.int .u64 (x:Int),.int .u64 (y:Int),.int .u64 (c:Int)]).run Tryz.prog w = .ok (.value (.tuple #[.int .u64 (((x + y + c) % 18446744073709551616:Nat):Int),.int .u64 (((x + y + c) / 18446744073709551616:Nat):Int)])) w:=by
  rw [run_callFunc_extern Tryz.func78 (by kernel_rfl) (by kernel_rfl) (by kernel_rfl) (e:=add64Entry) (by kernel_rfl),run_add64 x y c (by omega) (by omega) (by omega) (by omega)]
  simp only [Result.andThen]
  congr 5 <;> omega
theorem xor0 (a:Nat) (h:a < 18446744073709551616):bits .xor .u64 (a:Int) 0 = (a:Int):=by
  have:=bits_xor_u64_nat a 0 h (by decide)
  simpa using this
theorem xorM (a:Nat) (h:a < 18446744073709551616):bits .xor .u64 (a:Int) 18446744073709551615 = ((18446744073709551615 - a:Nat):Int):=by
  have:=bits_xor_u64_nat a 18446744073709551615 h (by decide)
  rw [Nat.xor_comm,Lib.xor_ones64 a h] at this
  exact this
theorem xorN (a:Nat) (h:a < 18446744073709551616):bits .xor .u64 IntKind.u64.max (a:Int) = ((18446744073709551615 - a:Nat):Int):=by
  show bits .xor .u64 18446744073709551615 (a:Int) = _
  have:=bits_xor_u64_nat 18446744073709551615 a (by decide) h
  rw [Lib.xor_ones64 a h] at this
  exact this
def fli (neg:Bool):Nat:=if neg then 18446744073709551615 else 0
def sgI (neg:Bool):Int:=if neg then -1 else 1
theorem flipOf_ (neg:Bool) (w:World):Calls Tryz.prog 67 #[.bool neg] w fun e w'=>e = .returned (.int .u64 ((fli neg:Nat):Int))∧w' = w:=by
  cases neg
  · go_enter Tryz.func67,Tryz.ntmps67
    go_wp2
    exact bodyPost_ret (v:=.int .u64 0) (by simp [results,Tryz.results67,go_sem]) rfl ⟨rfl,rfl⟩
  · go_enter Tryz.func67,Tryz.ntmps67
    go_wp2
    exact bodyPost_ret (v:=.int .u64 18446744073709551615) (by simp [results,Tryz.results67,go_sem]) rfl ⟨rfl,rfl⟩
theorem step_ (neg:Bool) (y p c:Nat) (hy:y < 18446744073709551616) (hp:p < 18446744073709551616) (hc:c≤1):∃ x c2:Nat,x < 18446744073709551616∧c2≤1∧(x:Int) + sgI neg * 18446744073709551616 * (c2:Int) = (y:Int) + sgI neg * ((p:Int) + (c:Int))∧∀ w:World,Calls Tryz.prog 68 #[.int .u64 (y:Int),.int .u64 (p:Int),.int .u64 (c:Int),.int .u64 ((fli neg:Nat):Int)] w fun e w'=>e = .returned (.tuple #[.int .u64 (x:Int),.int .u64 (c2:Int)])∧w' = w:=by
  cases neg
  · refine ⟨(y + p + c) % 18446744073709551616,(y + p + c) / 18446744073709551616,Nat.mod_lt _ (by decide),step_c y p c hy hp hc,step_plus y p c,fun w=>?_⟩
    have had:=add64_ y p c hc
    have x1:=xor0 y hy
    have x2:=xor0 ((y + p + c) % 18446744073709551616) (Nat.mod_lt _ (by decide))
    generalize (y + p + c) % 18446744073709551616 = x at *
    generalize (y + p + c) / 18446744073709551616 = c2 at *
    show Calls Tryz.prog 68 #[.int .u64 (y:Int),.int .u64 (p:Int),.int .u64 (c:Int),.int .u64 0] w _
    clear hy hp hc
    go_enter Tryz.func68,Tryz.ntmps68
    go_wp2
    exact bodyPost_ret (v:=.tuple #[.int .u64 (x:Int),.int .u64 (c2:Int)]) (by simp [results,Tryz.results68,go_sem]) rfl ⟨rfl,rfl⟩
  · refine ⟨18446744073709551615 - (18446744073709551615 - y + p + c) % 18446744073709551616,(18446744073709551615 - y + p + c) / 18446744073709551616,by omega,step_c _ p c (by omega) hp hc,step_minus y p c hy,fun w=>?_⟩
    have had:=add64_ (18446744073709551615 - y) p c hc
    have x1:=xorM y hy
    have x2:=xorM ((18446744073709551615 - y + p + c) % 18446744073709551616) (Nat.mod_lt _ (by decide))
    generalize (18446744073709551615 - y + p + c) % 18446744073709551616 = x at *
    generalize (18446744073709551615 - y + p + c) / 18446744073709551616 = c2 at *
    generalize 18446744073709551615 - y = y2 at *
    generalize 18446744073709551615 - x = x3 at *
    show Calls Tryz.prog 68 #[.int .u64 (y:Int),.int .u64 (p:Int),.int .u64 (c:Int),.int .u64 18446744073709551615] w _
    clear hy hp hc
    go_enter Tryz.func68,Tryz.ntmps68
    go_wp2
    exact bodyPost_ret (v:=.tuple #[.int .u64 (x3:Int),.int .u64 (c2:Int)]) (by simp [results,Tryz.results68,go_sem]) rfl ⟨rfl,rfl⟩

theorem pow64 (u:Nat) (hu:u < 64):18446744073709551616 = 2 ^ (64 - u) * 2 ^ u:=by
  rw [← Nat.pow_add,show 64 - u + u = 64 by omega]
theorem lay_hi (h u:Nat) (hu:u < 64):h * 2 ^ u / 18446744073709551616 = h / 2 ^ (64 - u):=by
  rw [pow64 u hu,Nat.mul_div_mul_right _ _ (Nat.two_pow_pos u)]
theorem lay_or (h l u:Nat) (hu:u < 64) (hl:l < 18446744073709551616):(h * 2 ^ u % 18446744073709551616) ||| (l / 2 ^ (64 - u)) = h * 2 ^ u % 18446744073709551616 + l * 2 ^ u / 18446744073709551616∧h * 2 ^ u % 18446744073709551616 + l * 2 ^ u / 18446744073709551616 < 18446744073709551616:=by
  have e:h * 2 ^ u % 18446744073709551616 = 2 ^ u * (h % 2 ^ (64 - u)):=by
    rw [pow64 u hu,Nat.mul_mod_mul_right,Nat.mul_comm]
  have lt:l / 2 ^ (64 - u) < 2 ^ u:=by
    rw [Nat.div_lt_iff_lt_mul (Nat.two_pow_pos _),Nat.mul_comm,← pow64 u hu];exact hl
  rw [lay_hi l u hu,e]
  refine ⟨(Nat.two_pow_add_eq_or_of_lt lt _).symm, ?_⟩
  have m:=Nat.mod_lt h (Nat.two_pow_pos (64 - u))
  have p:=pow64 u hu
  have q:=Nat.mul_le_mul_left (2 ^ u) (show h % 2 ^ (64 - u) + 1≤2 ^ (64 - u) from m)
  rw [Nat.mul_add,Nat.mul_one,Nat.mul_comm (2 ^ u) (2 ^ (64 - u)),← p] at q
  generalize 2 ^ u * (h % 2 ^ (64 - u)) = a at *
  generalize l / 2 ^ (64 - u) = d at *
  omega
def PS (P0 P1 P2 o k:Nat):Nat:=if k = 0 then 0 else if k = 1 then P0 * 18446744073709551616 ^ o else if k = 2 then P0 * 18446744073709551616 ^ o + P1 * 18446744073709551616 ^ (o + 1) else P0 * 18446744073709551616 ^ o + P1 * 18446744073709551616 ^ (o + 1) + P2 * 18446744073709551616 ^ (o + 2)
theorem PS_all (h l u o:Nat):PS (l * 2 ^ u % 18446744073709551616) (h * 2 ^ u % 18446744073709551616 + l * 2 ^ u / 18446744073709551616) (h * 2 ^ u / 18446744073709551616) o 3 = (h * 18446744073709551616 + l) * 2 ^ (o * 64 + u):=by
  have e:=parts3 h l u
  unfold PS
  rw [if_neg (by decide),if_neg (by decide),if_neg (by decide)]
  have pw:2 ^ (o * 64 + u) = 18446744073709551616 ^ o * 2 ^ u:=by rw [Nat.pow_add,Nat.mul_comm o 64,Nat.pow_mul,show (2:Nat) ^ 64 = 18446744073709551616 from rfl]
  rw [pw,Nat.pow_add,Nat.pow_add,Nat.pow_one,show 18446744073709551616 ^ 2 = 18446744073709551616 * 18446744073709551616 from rfl]
  generalize h * 18446744073709551616 + l = X at *
  generalize h * 2 ^ u % 18446744073709551616 + l * 2 ^ u / 18446744073709551616 = b1 at *
  generalize l * 2 ^ u % 18446744073709551616 = a1 at *
  generalize h * 2 ^ u / 18446744073709551616 = c1 at *
  generalize 18446744073709551616 ^ o = Q at *
  rw [show X * (Q * 2 ^ u) = X * 2 ^ u * Q by rw [Nat.mul_comm Q,Nat.mul_assoc],← e,Nat.add_mul,Nat.add_mul,Nat.mul_comm Q 18446744073709551616,Nat.mul_comm Q (18446744073709551616 * 18446744073709551616)]
  simp only [Nat.mul_assoc]
theorem wrapJ (a k j:Nat) (h:j = a + k) (hj:j < 9223372036854775808):wrap64 ((a:Int) + (k:Int)) = (j:Int):=by unfold wrap64;omega
theorem wrapE (e:Int) (m:Nat) (h:e = (m:Int)) (hj:m < 9223372036854775808):wrap64 e = (m:Int):=by rw [h];unfold wrap64;omega
theorem cshl (x s:Nat):(x:Int) * 2 ^ s = ((x * 2 ^ s:Nat):Int):=by simp
theorem cshr (x s:Nat):(x:Int) / 2 ^ s = ((x / 2 ^ s:Nat):Int):=by simp
theorem idx3 (P0 P1 P2 k:Nat) (hk:k < 3):∃ Pk:Nat,(P0 < 18446744073709551616→P1 < 18446744073709551616→P2 < 18446744073709551616→Pk < 18446744073709551616)∧(∀ o,PS P0 P1 P2 o k + Pk * 18446744073709551616 ^ (o + k) = PS P0 P1 P2 o (k + 1))∧∀ w:World,(Instr.index 95 (.agg #[.int .u64 (P0:Int),.int .u64 (P1:Int),.int .u64 (P2:Int)]) (.int .i64 (k:Int))).run Tryz.prog w = .ok (.int .u64 (Pk:Int)) w:=by
  have h3:k = 0∨k = 1∨k = 2:=by omega
  rcases h3 with rfl | rfl | rfl
  · exact ⟨P0,fun a _ _=>a,fun o=>by unfold PS;simp,fun w=>by kernel_rfl⟩
  · exact ⟨P1,fun _ a _=>a,fun o=>by unfold PS;simp,fun w=>by kernel_rfl⟩
  · exact ⟨P2,fun _ _ a=>a,fun o=>by unfold PS;simp,fun w=>by kernel_rfl⟩
theorem idxW (C:Array Value) (k:Nat) (v:Value) (hk:k < 67) (hv:C[k]? = some v) (w:World):(Instr.index 39 (.agg C) (.int .i64 (k:Int))).run Tryz.prog w = .ok v w:=by
  simp [Instr.index,asIntOf,run_underlying undW,part,hk,hv]
theorem lay_ (neg:Bool) (h l at9 up:Nat) (exp:Int) (hh:h < 18446744073709551616) (hl:l < 18446744073709551616) (he:exp + 2148 = ((at9 * 64 + up:Nat):Int)) (hup:up < 64) (hat:at9≤64) (b:Nat) (ws:List Nat) (X:Array Value) (t:TypeId) (V:Int) (hV:Rep ws V) (w:World) (hb:Bk w b (wc ws ++ X) t) :
    Calls Tryz.prog 30 #[.pointer (some ⟨b,0,none⟩),.bool neg,.int .u64 (h:Int),.int .u64 (l:Int),.int .i64 exp] w fun e w'=>∃ ws':List Nat,(∃ v,e = .returned v)∧Bk w' b (wc ws' ++ X) t∧Rep ws' (V + sgI neg * (((h * 18446744073709551616 + l) * 2 ^ (at9 * 64 + up):Nat):Int))∧Kb b w w':=by
  obtain ⟨m,hm⟩:∃ m,m = at9 * 64 + up:=⟨_,rfl⟩
  rw [← hm] at he
  have g1:wrap64 (exp + 2148) = (m:Int):=wrapE _ _ he (by omega)
  have g2:(m:Int) / 64 = (at9:Int):=by omega
  have g3:(m:Int) % 64 = (up:Int):=by omega
  have g4:m < 9223372036854775808:=by omega
  have lo:=lay_or h l up hup hl
  have hi:=lay_hi h up hup
  rw [← PS_all h l up at9]
  have p0:l * 2 ^ up % 18446744073709551616 < 18446744073709551616:=Nat.mod_lt _ (by decide)
  have p2:h * 2 ^ up / 18446744073709551616 < 18446744073709551616:=by rw [hi];exact Nat.lt_of_le_of_lt (Nat.div_le_self _ _) hh
  have g5:IntKind.u64.wrap ((l:Int) * 2 ^ up) = ((l * 2 ^ up % 18446744073709551616:Nat):Int):=by rw [IntKind.wrap_u64,cshl];rfl
  have g6:IntKind.u64.wrap ((h:Int) * 2 ^ up) = ((h * 2 ^ up % 18446744073709551616:Nat):Int):=by rw [IntKind.wrap_u64,cshl];rfl
  have g7:(l:Int) / 2 ^ (64 - up) = ((l / 2 ^ (64 - up):Nat):Int):=cshr _ _
  have g8:(h:Int) / 2 ^ (64 - up) = ((h * 2 ^ up / 18446744073709551616:Nat):Int):=by rw [hi];exact cshr _ _
  have g9:bits .or .u64 ((h * 2 ^ up % 18446744073709551616:Nat):Int) ((l / 2 ^ (64 - up):Nat):Int) = ((h * 2 ^ up % 18446744073709551616 + l * 2 ^ up / 18446744073709551616:Nat):Int):=by
    rw [bits_or_u64_nat _ _ (Nat.mod_lt _ (by decide)) (Nat.lt_of_le_of_lt (Nat.div_le_self _ _) hl),lo.1]
  have p1:=lo.2
  generalize h * 2 ^ up % 18446744073709551616 + l * 2 ^ up / 18446744073709551616 = P1 at *
  generalize h * 2 ^ up / 18446744073709551616 = P2 at *
  generalize l * 2 ^ up % 18446744073709551616 = P0 at *
  generalize h * 2 ^ up % 18446744073709551616 = A1 at *
  generalize l / 2 ^ (64 - up) = B1 at *
  have hflip:=flipOf_ neg
  have HB:Hid (Bk w b (wc ws ++ X) t∧Rep ws V):=⟨hb,hV⟩
  have HP:Hid (P0 < 18446744073709551616∧P1 < 18446744073709551616∧P2 < 18446744073709551616):=⟨p0,p1,p2⟩
  have HA:Hid (at9≤64):=hat
  clear hm lo hi he hb hV p0 p1 p2 hh hl
  go_enter Tryz.func30,Tryz.ntmps30
  go_wp2_with (first | (go_at_call 67;refine (hflip _).mono ?_;rintro e w' ⟨rfl,rfl⟩))
  clear g1 g2 g3 g5 g6 g7 g8 g9 hflip
  go_loopw [15,45] (fun cc ii wr=>∃ (k c:Nat) (us:List Nat),cc = .int .u64 (c:Int)∧ii = .int .i64 (k:Int)∧k≤3∧Lay ws us (sgI neg) (at9 + k) c (PS P0 P1 P2 at9 k)∧Bk wr b (wc us ++ X) t∧Kb b w wr) (fun _ i _=>3 - (intOf i).toNat)
  case atStart =>
    obtain ⟨hb,hV⟩:=HB.out
    exact ⟨0,0,ws,rfl,rfl,by omega,Lay.start _ hV.1 hV.2.1,hb.alloc _,Kb.of ((Kp.refl w).alloc _)⟩
  case round =>
    obtain ⟨k,c,us,rfl,rfl,hk,hL,hB,hK⟩:=hrel
    obtain ⟨p0,p1,p2⟩:=HP.out
    have hat:=HA.out
    by_cases ck:k < 3
    · obtain ⟨Pk,pk,hPS,ix⟩:=idx3 P0 P1 P2 k ck
      have pk:=pk p0 p1 p2
      have hy:=hL.2.1 (at9 + k)
      have e1:=hB.word (at9 + k) (by rw [hL.1];omega)
      have e2:=hB.frozen (at9 + k)
      obtain ⟨x,c2,hx,hc2,hxe,hst⟩:=step_ neg (us.getD (at9 + k) 0) Pk c hy pk hL.2.2.1
      have hL2:Lay ws (us.set (at9 + k) x) (sgI neg) (at9 + (k + 1)) c2 (PS P0 P1 P2 at9 k + Pk * 18446744073709551616 ^ (at9 + k)):=hL.next (by omega) Pk x c2 hx hc2 hxe
      have hB2:=hB.setw (at9 + k) x (by rw [hL.1];omega)
      have hK2:=hK.setCell (at9 + k) (.int .u64 (x:Int))
      rw [hPS] at hL2
      obtain ⟨j,hj⟩:∃ j,j = at9 + k:=⟨_,rfl⟩
      rw [← hj] at e1 e2 hst hB2 hK2 hL2
      have j3:(j:Int) < 67:=by omega
      have j4:j < 67:=by omega
      have j5:(k:Int) < 3:=by omega
      have j6:k + 1≤3:=by omega
      have j7:3 - (k + 1) < 3 - k:=by omega
      have j1:wrap64 ((at9:Int) + (k:Int)) = (j:Int):=wrapJ _ _ _ hj (Nat.lt_trans j4 (by decide))
      have j2:IntKind.i64.wrap ((at9:Int) + (k:Int)) = (j:Int):=by rw [IntWalk.i64_left];exact j1
      generalize us.getD j 0 = y at *
      clear hL hB hK hxe hy hx hc2 hj hk pk hPS p0 p1 p2
      go_wp2_with (fail)
      first | (go_region_with (go_at_call 68;refine (hst _).mono ?_;rintro e w' ⟨rfl,hw'⟩;obtain rfl:=hw'.symm)) | fail
      all_goals (
        go_wp2
        exact ⟨⟨k + 1,c2,us.set j x,rfl,by go_num,j6,hL2,hB2.drew,hK2.drew⟩,(show 3 - (k + 1) < 3 - k from j7)⟩)
    · have hk3:k = 3:=by omega
      have j1:wrap64 ((at9:Int) + 3) = ((at9 + 3:Nat):Int):=wrapJ at9 3 _ rfl (by omega)
      have hL:Lay ws us (sgI neg) (at9 + 3) c (PS P0 P1 P2 at9 3):=by rw [hk3] at hL;exact hL
      have t3:¬ ((k:Int) < 3):=by omega
      clear hk hk3 ck
      obtain ⟨j0,hj0⟩:∃ j0,j0 = at9 + 3:=⟨_,rfl⟩
      rw [← hj0] at hL j1
      have hj67:j0≤67:=by omega
      have HJ:Hid (j0 = at9 + 3):=hj0
      clear hj0
      go_wp2_with (fail)
      clear j1
      go_loopw [15,18] (fun cc ii wr=>∃ (k c:Nat) (us:List Nat),cc = .int .u64 (c:Int)∧ii = .int .i64 (k:Int)∧k≤67∧Lay ws us (sgI neg) k c (PS P0 P1 P2 at9 3)∧Bk wr b (wc us ++ X) t∧Kb b w wr) (fun _ i _=>67 - (intOf i).toNat)
      case atStart=>exact ⟨j0,c,us,rfl,(by rw [HJ.out];rfl),hj67,hL,hB,hK⟩
      case round =>
        clear hL hB hK hj67
        obtain ⟨k,c1,us1,rfl,rfl,hk,hL,hB,hK⟩:=hrel
        rcases Nat.eq_zero_or_pos c1 with hc | hc
        · have hR:=((show Lay ws us1 (sgI neg) k 0 (PS P0 P1 P2 at9 3) from hc ▸ hL).quick 67).rep HB.out.2
          have t0:¬ ((0:Int) < (c1:Int)):=by omega
          clear hc hk
          go_wp2_with (fail)
          exact bodyPost_end (v:=.tuple #[]) (by simp [results,Tryz.results30,go_sem]) rfl (by first | exact ⟨⟨_,rfl⟩,us1,hB,hR,hK⟩ | exact ⟨us1,⟨_,rfl⟩,hB,hR,hK⟩)
        · have t0:(0:Int) < (c1:Int):=by omega
          by_cases ck:k < 67
          · have hy:=hL.2.1 k
            have e1:=hB.word k (by rw [hL.1];omega)
            have e2:=hB.frozen k
            obtain ⟨x,c2,hx,hc2,hxe,hst⟩:=step_ neg (us1.getD k 0) 0 c1 hy (by decide) hL.2.2.1
            have hL2:=hL.next0 ck x c2 hx hc2 hxe
            have hB2:=hB.setw k x (by rw [hL.1];omega)
            have hK2:=hK.setCell k (.int .u64 (x:Int))
            have j3:(k:Int) < 67:=by omega
            have j5:k + 1≤67:=by omega
            have j6:67 - (k + 1) < 67 - k:=by omega
            generalize us1.getD k 0 = y at *
            clear hL hB hK hxe hy hx hc2 hk hc
            go_wp2_with (fail)
            first | (go_region_with (go_at_call 68;refine (hst _).mono ?_;rintro e w' ⟨rfl,hw'⟩;obtain rfl:=hw'.symm)) | fail
            all_goals (
              go_wp2
              exact ⟨⟨k + 1,c2,us1.set k x,rfl,by go_num,j5,hL2,hB2.drew,hK2.drew⟩,(show 67 - (k + 1) < 67 - k from j6)⟩)
          · obtain rfl:k = 67:=by omega
            have hR:=hL.rep HB.out.2
            clear ck hk hc
            go_wp2_with (fail)
            exact bodyPost_end (v:=.tuple #[]) (by simp [results,Tryz.results30,go_sem]) rfl (by first | exact ⟨⟨_,rfl⟩,us1,hB,hR,hK⟩ | exact ⟨us1,⟨_,rfl⟩,hB,hR,hK⟩)
theorem flipT (n:Bool) (m:Nat) (hm:m < 9223372036854775808):Fq.wD n m ^^^ 9223372036854775808 = Fq.wD (!n) m:=by
  obtain ⟨x,hx⟩:∃ x,x = Fq.wD n m:=⟨_,rfl⟩
  have h1:(x ^^^ 9223372036854775808) % 2 ^ 63 = x % 2 ^ 63:=by
    rw [Nat.xor_mod_two_pow,show (9223372036854775808:Nat) % 2 ^ 63 = 0 from by decide,Nat.xor_zero]
  have h2:(x ^^^ 9223372036854775808) / 2 ^ 63 = x / 2 ^ 63 ^^^ 1:=by
    rw [← Nat.shiftRight_eq_div_pow,← Nat.shiftRight_eq_div_pow,Nat.shiftRight_xor_distrib,show (9223372036854775808:Nat) >>> 63 = 1 from by decide]
  rw [show (2:Nat) ^ 63 = 9223372036854775808 from by decide] at h1 h2
  rw [← hx]
  generalize hz:x ^^^ 9223372036854775808 = z at h1 h2 ⊢
  clear hz
  cases n
  · have e:x = m:=by rw [hx];unfold Fq.wD;simp
    rw [e,Nat.div_eq_of_lt hm,show (0:Nat) ^^^ 1 = 1 from by decide] at h2
    rw [e,Nat.mod_eq_of_lt hm] at h1
    unfold Fq.wD
    simp
    omega
  · have e:x = 9223372036854775808 + m:=by rw [hx];unfold Fq.wD;simp
    have e2:x / 9223372036854775808 = 1:=by omega
    have e3:x % 9223372036854775808 = m:=by omega
    rw [e2,show (1:Nat) ^^^ 1 = 0 from by decide] at h2
    rw [e3] at h1
    unfold Fq.wD
    simp
    omega
theorem negT (n:Bool) (m:Nat) (hm:m < 9223372036854775808) (w:World):(Op.unary .neg (.float .f64 (Fq.wD n m))).run Tryz.prog w = .ok (.float .f64 (Fq.wD (!n) m)) w:=by
  have h:Op.negFloat .f64 (Fq.wD n m) = Fq.wD (!n) m:=by
    unfold Op.negFloat
    exact flipT n m hm
  rw [← h];rfl
open Ieee in
theorem fgtT (n n':Bool) (m m':Nat) (h:m < 9223372036854775808) (h':m' < 9223372036854775808):(FloatKind.f64.format.order (Fq.wD n m) (Fq.wD n' m') == some Ordering.gt) = decide (m≤9218868437227405312∧m'≤9218868437227405312∧Fq.plz n' m' < Fq.plz n m):=by
  by_cases c:9218868437227405312 < m
  · rw [Fq.ordD_nanl n m _ c h,decide_eq_false (by omega)];rfl
  by_cases c':9218868437227405312 < m'
  · rw [Fq.ordD_nanr n' m' _ c' h',decide_eq_false (by omega)];rfl
  rw [Fq.ordD n n' m m' (by omega) (by omega)]
  rcases Int.lt_trichotomy (Fq.plz n m) (Fq.plz n' m') with g | g | g
  · rw [Fq.cmp_lt g,decide_eq_false (by omega)];rfl
  · rw [Fq.cmp_eq g,decide_eq_false (by omega)];rfl
  · rw [Fq.cmp_gt g,decide_eq_true ⟨by omega,by omega,by omega⟩];rfl

theorem ordT (n:Bool) (m:Nat) (hm:m < 9223372036854775808):(FloatKind.f64.format.order (Fq.wD n m) (Fq.wD n m) != some .eq) = decide (9218868437227405312 < m):=by
  by_cases c:9218868437227405312 < m
  · rw [Fq.ordD_nanl n m _ c hm,decide_eq_true c];rfl
  · rw [Fq.ordD n n m m (by omega) (by omega),Fq.cmp_eq rfl,decide_eq_false c];rfl
def tS (n:Bool) (m:Nat):Int:=if 9218868437227405312 < m then 2 else if m = 9218868437227405312 then (if n then -1 else 1) else 0
theorem isNaNT_ (n:Bool) (m:Nat) (hm:m < 9223372036854775808) (w:World):Calls Tryz.prog 70 #[.float .f64 (Fq.wD n m)] w fun e w'=>e = .returned (.bool (decide (9218868437227405312 < m)))∧w' = w:=by
  have o1:=ordT n m hm
  obtain ⟨X,hX⟩:∃ X,X = Fq.wD n m:=⟨_,rfl⟩
  rw [← hX] at o1 ⊢
  clear hX
  go_enter Tryz.func70,Tryz.ntmps70
  go_wp2
  exact bodyPost_ret (v:=.bool (decide (9218868437227405312 < m))) (by simp [results,Tryz.results70,go_sem]) rfl ⟨rfl,rfl⟩
theorem isInf1_ (n:Bool) (m:Nat) (hm:m < 9223372036854775808) (w:World):Calls Tryz.prog 71 #[.float .f64 (Fq.wD n m),.int .i64 1] w fun e w'=>e = .returned (.bool (decide (m = 9218868437227405312∧n = false)))∧w' = w:=by
  have t:=fgtT n false m 9218868437227405311 hm (by decide)
  rw [show Fq.wD false 9218868437227405311 = 9218868437227405311 from rfl,show decide (m≤9218868437227405312∧9218868437227405311≤9218868437227405312∧Fq.plz false 9218868437227405311 < Fq.plz n m) = decide (m = 9218868437227405312∧n = false) from by congr 1;apply propext;unfold Fq.plz;cases n <;> simp <;> omega] at t
  generalize Fq.wD n m = X at *
  generalize decide (m = 9218868437227405312∧n = false) = V at *
  go_enter Tryz.func71,Tryz.ntmps71
  go_wp2
  exact bodyPost_ret (v:=.bool V) (by simp [results,Tryz.results71,go_sem] <;> simpa using t) rfl ⟨rfl,rfl⟩
theorem isInfM_ (n:Bool) (m:Nat) (hm:m < 9223372036854775808) (w:World):Calls Tryz.prog 71 #[.float .f64 (Fq.wD n m),.int .i64 (-1)] w fun e w'=>e = .returned (.bool (decide (m = 9218868437227405312∧n = true)))∧w' = w:=by
  have t:=fgtT (!n) false m 9218868437227405311 hm (by decide)
  have hneg:=negT n m hm
  rw [show Fq.wD false 9218868437227405311 = 9218868437227405311 from rfl,show decide (m≤9218868437227405312∧9218868437227405311≤9218868437227405312∧Fq.plz false 9218868437227405311 < Fq.plz (!n) m) = decide (m = 9218868437227405312∧n = true) from by congr 1;apply propext;unfold Fq.plz;cases n <;> simp <;> omega] at t
  generalize Fq.wD n m = X at *
  generalize Fq.wD (!n) m = Y at *
  generalize decide (m = 9218868437227405312∧n = true) = V at *
  go_enter Tryz.func71,Tryz.ntmps71
  go_wp2
  exact bodyPost_ret (v:=.bool V) (by simp [results,Tryz.results71,go_sem] <;> simpa using t) rfl ⟨rfl,rfl⟩
theorem stateOf_ (n:Bool) (m:Nat) (hm:m < 9223372036854775808) (w:World):Calls Tryz.prog 32 #[.float .f64 (Fq.wD n m)] w fun e w'=>e = .returned (.int .i64 (tS n m))∧w' = w:=by
  have h1:=isNaNT_ n m hm
  have h2:=isInf1_ n m hm
  have h3:=isInfM_ n m hm
  unfold tS
  generalize Fq.wD n m = X at *
  by_cases c1:9218868437227405312 < m
  · rw [if_pos c1]
    rw [decide_eq_true c1] at h1
    clear c1 hm h2 h3
    go_enter Tryz.func32,Tryz.ntmps32
    go_wp2_with (first | (go_at_call 70;refine (h1 _).mono ?_;rintro e w' ⟨rfl,hw'⟩;obtain rfl:=hw'.symm;clear hw') | (go_at_call_of 71 (Value.int IntKind.i64 1);refine (h2 _).mono ?_;rintro e w' ⟨rfl,hw'⟩;obtain rfl:=hw'.symm;clear hw') | (go_at_call 71;refine (h3 _).mono ?_;rintro e w' ⟨rfl,hw'⟩;obtain rfl:=hw'.symm;clear hw'))
    exact bodyPost_ret (v:=.int .i64 2) (by simp [results,Tryz.results32,go_sem]) rfl ⟨rfl,rfl⟩
  · rw [if_neg c1]
    rw [decide_eq_false c1] at h1
    by_cases c2:m = 9218868437227405312
    · rw [if_pos c2]
      cases n
      · rw [decide_eq_true ⟨c2,rfl⟩] at h2
        clear c1 hm h3 c2
        go_enter Tryz.func32,Tryz.ntmps32
        go_wp2_with (first | (go_at_call 70;refine (h1 _).mono ?_;rintro e w' ⟨rfl,hw'⟩;obtain rfl:=hw'.symm;clear hw') | (go_at_call_of 71 (Value.int IntKind.i64 1);refine (h2 _).mono ?_;rintro e w' ⟨rfl,hw'⟩;obtain rfl:=hw'.symm;clear hw') | (go_at_call 71;refine (h3 _).mono ?_;rintro e w' ⟨rfl,hw'⟩;obtain rfl:=hw'.symm;clear hw'))
        exact bodyPost_ret (v:=.int .i64 1) (by simp [results,Tryz.results32,go_sem]) rfl ⟨rfl,rfl⟩
      · rw [decide_eq_false (by simp)] at h2
        rw [decide_eq_true ⟨c2,rfl⟩] at h3
        clear c1 hm c2
        go_enter Tryz.func32,Tryz.ntmps32
        go_wp2_with (first | (go_at_call 70;refine (h1 _).mono ?_;rintro e w' ⟨rfl,hw'⟩;obtain rfl:=hw'.symm;clear hw') | (go_at_call_of 71 (Value.int IntKind.i64 1);refine (h2 _).mono ?_;rintro e w' ⟨rfl,hw'⟩;obtain rfl:=hw'.symm;clear hw') | (go_at_call 71;refine (h3 _).mono ?_;rintro e w' ⟨rfl,hw'⟩;obtain rfl:=hw'.symm;clear hw'))
        exact bodyPost_ret (v:=.int .i64 (-1)) (by simp [results,Tryz.results32,go_sem]) rfl ⟨rfl,rfl⟩
    · rw [if_neg c2]
      rw [decide_eq_false (fun h=>c2 h.1)] at h2 h3
      clear c1 hm c2
      go_enter Tryz.func32,Tryz.ntmps32
      go_wp2_with (first | (go_at_call 70;refine (h1 _).mono ?_;rintro e w' ⟨rfl,hw'⟩;obtain rfl:=hw'.symm;clear hw') | (go_at_call_of 71 (Value.int IntKind.i64 1);refine (h2 _).mono ?_;rintro e w' ⟨rfl,hw'⟩;obtain rfl:=hw'.symm;clear hw') | (go_at_call 71;refine (h3 _).mono ?_;rintro e w' ⟨rfl,hw'⟩;obtain rfl:=hw'.symm;clear hw'))
      exact bodyPost_ret (v:=.int .i64 0) (by simp [results,Tryz.results32,go_sem]) rfl ⟨rfl,rfl⟩
def jn (a b:Int):Int:=if a = 0 then b else if b = 0∨a = b then a else 2
theorem joined_ (a b:Int) (w:World):Calls Tryz.prog 69 #[.int .i64 a,.int .i64 b] w fun e w'=>e = .returned (.int .i64 (jn a b))∧w' = w:=by
  unfold jn
  by_cases c1:a = 0
  · rw [if_pos c1]
    subst c1
    go_enter Tryz.func69,Tryz.ntmps69
    go_wp2
    exact bodyPost_ret (v:=.int .i64 b) (by simp [results,Tryz.results69,go_sem]) rfl ⟨rfl,rfl⟩
  · rw [if_neg c1]
    by_cases c2:b = 0
    · subst c2
      rw [if_pos (Or.inl rfl)]
      go_enter Tryz.func69,Tryz.ntmps69
      go_wp2
      exact bodyPost_ret (v:=.int .i64 a) (by simp [results,Tryz.results69,go_sem]) rfl ⟨rfl,rfl⟩
    · by_cases c3:a = b
      · subst c3
        rw [if_pos (Or.inr rfl)]
        go_enter Tryz.func69,Tryz.ntmps69
        go_wp2
        exact bodyPost_ret (v:=.int .i64 a) (by simp [results,Tryz.results69,go_sem]) rfl ⟨rfl,rfl⟩
      · rw [if_neg (by omega)]
        have t1:(a == 0) = false:=by simpa using c1
        have t2:(b == 0) = false:=by simpa using c2
        have t3:(a == b) = false:=by simpa using c3
        go_enter Tryz.func69,Tryz.ntmps69
        go_wp2
        exact bodyPost_ret (v:=.int .i64 2) (by simp [results,Tryz.results69,go_sem]) rfl ⟨rfl,rfl⟩

def Sb (w:World) (b:Nat) (ws:List Nat) (k:Nat) (s:Int):Prop:=ws.length = 67∧Bk w b (wc ws ++ #[.int .u64 (k:Int),.int .i64 s]) 41
theorem Sb.terms {w:World} {b:Nat} {ws:List Nat} {k:Nat} {s:Int} (h:Sb w b ws k s):w.cell? ⟨b,67,none⟩ = some (.int .u64 (k:Int)):=by
  rw [h.2.cell,Array.getElem?_append_right (by rw [wc_size,h.1];exact Nat.le_refl _),wc_size,h.1];rfl
theorem Sb.state {w:World} {b:Nat} {ws:List Nat} {k:Nat} {s:Int} (h:Sb w b ws k s):w.cell? ⟨b,68,none⟩ = some (.int .i64 s):=by
  rw [h.2.cell,Array.getElem?_append_right (by rw [wc_size,h.1];decide),wc_size,h.1];rfl
theorem Sb.setTerms {w:World} {b:Nat} {ws:List Nat} {k:Nat} {s:Int} (h:Sb w b ws k s) (k':Nat):Sb (w.setCell ⟨b,67,none⟩ (.int .u64 (k':Int))) b ws k' s:=by
  refine ⟨h.1, ?_⟩
  have q:=h.2.put 67 (.int .u64 (k':Int))
  rwa [Array.setIfInBounds_append_right (by rw [wc_size,h.1];exact Nat.le_refl _),wc_size,h.1] at q
theorem Sb.setState {w:World} {b:Nat} {ws:List Nat} {k:Nat} {s:Int} (h:Sb w b ws k s) (s':Int):Sb (w.setCell ⟨b,68,none⟩ (.int .i64 s')) b ws k s':=by
  refine ⟨h.1, ?_⟩
  have q:=h.2.put 68 (.int .i64 s')
  rwa [Array.setIfInBounds_append_right (by rw [wc_size,h.1];decide),wc_size,h.1] at q
def grS (k:Nat) (s:Int):Int:=if 4611686018427387904 < k then 2 else s
theorem grow_ (b:Nat) (ws:List Nat) (k t:Nat) (s s2:Int) (w:World) (h:Sb w b ws k s):Calls Tryz.prog 31 #[.pointer (some ⟨b,0,none⟩),.int .u64 (t:Int),.int .i64 s2] w fun e w'=>(∃ v,e = .returned v)∧Sb w' b ws ((k + t) % 18446744073709551616) (grS ((k + t) % 18446744073709551616) (jn s s2))∧Kb b w w':=by
  have hj:=joined_ s s2
  have c1:=h.state
  have f1:=h.2.frozen 68
  have h1:=h.setState (jn s s2)
  have k1:=(Kb.refl b w).setCell 68 (.int .i64 (jn s s2))
  generalize jn s s2 = S at *
  have c2:=h1.terms
  have f2:=h1.2.frozen 67
  have e1:IntKind.u64.wrap ((k:Int) + (t:Int)) = (((k + t) % 18446744073709551616:Nat):Int):=by rw [IntKind.wrap_u64];omega
  generalize (k + t) % 18446744073709551616 = K at *
  have h2:=h1.setTerms K
  have k2:=k1.setCell 67 (.int .u64 (K:Int))
  have c3:=h2.terms
  have f3:=h2.2.frozen 68
  have c4:=h2.state
  unfold grS
  by_cases cK:4611686018427387904 < K
  · rw [if_pos cK]
    have h3:=h2.setState 2
    have k3:=k2.setCell 68 (.int .i64 2)
    have d1:(4611686018427387904:Int) < (K:Int):=by omega
    clear cK
    go_enter Tryz.func31,Tryz.ntmps31
    go_wp2_with (first | (go_at_call 69;refine (hj _).mono ?_;rintro e w' ⟨rfl,hw'⟩;obtain rfl:=hw'.symm;clear hw'))
    exact bodyPost_end (v:=.tuple #[]) (by kernel_rfl) rfl ⟨⟨_,rfl⟩,h3,k3⟩
  · rw [if_neg cK]
    have d1:¬ ((4611686018427387904:Int) < (K:Int)):=by omega
    clear cK
    go_enter Tryz.func31,Tryz.ntmps31
    go_wp2_with (first | (go_at_call 69;refine (hj _).mono ?_;rintro e w' ⟨rfl,hw'⟩;obtain rfl:=hw'.symm;clear hw'))
    exact bodyPost_end (v:=.tuple #[]) (by kernel_rfl) rfl ⟨⟨_,rfl⟩,h2,k2⟩
end Go.Proofs.YtfhcmabejagknaaGreatDoor
