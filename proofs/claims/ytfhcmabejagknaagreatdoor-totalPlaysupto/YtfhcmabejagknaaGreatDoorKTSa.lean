import Derived.Test.YtfhcmabejagknaaGreatDoorKRT9
import Derived.Test.YtfhcmabejagknaaGreatDoorKTRf
set_option maxHeartbeats 1000000
set_option maxRecDepth 20000
namespace Go.Proofs.YtfhcmabejagknaaGreatDoor
open Go.RowKit

def rtR (A:Nat):Nat:=2 * rtN (A * 2 ^ 128) + (if A * 2 ^ 128 = rtN (A * 2 ^ 128) * rtN (A * 2 ^ 128) then 0 else 1)
theorem rtN_le (a:Nat):rtN a≤a:=by
  have h:=(rtN_is a).1
  have:rtN a * 1≤rtN a * rtN a∨rtN a = 0:=by
    rcases Nat.eq_zero_or_pos (rtN a) with h | h
    · exact Or.inr h
    · exact Or.inl (Nat.mul_le_mul (Nat.le_refl _) h)
  omega
theorem shl_small (a n:Nat) (h:blen a≤8000) (hn:n≤200):shlN a (n:Int) = (dig (a * 2 ^ n),0):=by
  have hl:len32 a≤250:=dlen a 250 (by omega)
  unfold shlN
  rw [if_neg (by omega),if_neg (by omega)]
  by_cases z:a = 0
  · rw [if_pos z,z,Nat.zero_mul,dig_zero]
  · rw [if_neg z,if_neg (by omega)];rfl
theorem blen_dbl (x Z:Nat) (h:blen x≤Z):blen (2 * x)≤Z + 1∧blen (2 * x + 1)≤Z + 1:=by
  rw [blen_le_iff] at h
  rw [blen_le_iff,blen_le_iff,Nat.pow_succ]
  omega
theorem tsqrt_ (d:Int) (hd1:-9223372036854775808≤d) (hd2:d < 9223372036854775808) (p:Option Addr) (c:Nat) (xs:List Int) (A:Nat) (w:World) (hx:Arr w p xs) (hw:Wd xs) (hl:xs.length = 134) (hc:xs.length≤c) (hv:val xs = A) (hT:Tab w) (hQ:Fq.Tab w):Calls Tryz.prog 57 #[.int .i64 d,.slice p xs.length c] w fun e w'=>e = .returned (.float .f64 (ofW d false (rtR A) (-1139)))∧Kp w w':=by
  have hA:blen A≤4288:=by
    have h:=val_lt xs hw
    rw [hl,show (4294967296:Nat) = 2 ^ 32 from rfl,← Nat.pow_mul,hv] at h
    exact (blen_le_iff A (32 * 134)).2 h
  have hB:blen (A * 2 ^ 128)≤4416:=by
    by_cases z:A = 0
    · rw [z,Nat.zero_mul,blen_zero];omega
    · rw [blen_mul A 128 z];omega
  have h1:=nshl_ p c xs w 128 hx hw (by omega) hc
  rw [hv,show (128:Int) = ((128:Nat):Int) from rfl,shl_small A 128 (by omega) (by decide)] at h1
  obtain ⟨B,hBB⟩:∃ B,B = A * 2 ^ 128:=⟨_,rfl⟩
  have hr:rtR A = 2 * rtN B + (if B = rtN B * rtN B then 0 else 1):=by unfold rtR;rw [← hBB]
  rw [hr]
  rw [← hBB] at h1 hB
  have hrl:blen (rtN B)≤4416:=by
    rw [blen_le_iff] at hB ⊢
    exact Nat.lt_of_le_of_lt (rtN_le B) hB
  have hB32:(dig B).length≤200:=dlen B 200 (by omega)
  have hr32:(dig (rtN B)).length≤200:=dlen (rtN B) 200 (by omega)
  have h2:=fun (W:World) (q:Option Addr) (e:Nat) (ha:Arr W q (dig B)) (hb:(dig B).length≤e)=>nroot_ q e (dig B) W ha (Wd_dig B) (by omega) hb
  have hrt:rootN B = (dig (rtN B),decide (B = rtN B * rtN B),0):=by
    unfold rootN
    rw [if_neg (by have h:len32 B≤200:=hB32;omega)]
  rw [val_dig,hrt] at h2
  have h3:=fun (W:World) (q:Option Addr) (e:Nat) (ha:Arr W q (dig (rtN B))) (hb:(dig (rtN B)).length≤e)=>nshl_ q e (dig (rtN B)) W 1 ha (Wd_dig _) (by omega) hb
  rw [val_dig,show (1:Int) = ((1:Nat):Int) from rfl,shl_small (rtN B) 1 (by omega) (by decide),Nat.pow_one,Nat.mul_comm (rtN B) 2] at h3
  obtain ⟨hR2,hR3⟩:=blen_dbl (rtN B) 4416 hrl
  have hl2:(dig (2 * rtN B)).length≤200:=dlen _ 200 (by omega)
  have hl3:(dig (2 * rtN B + 1)).length≤200:=dlen _ 200 (by omega)
  have h4:=nsmall_ 1 (by decide)
  have hd1':(dig 1).length≤200:=by rw [show dig 1 = [1] from by decide +kernel];decide
  have hadd:addN (2 * rtN B) 1 = (dig (2 * rtN B + 1),0):=by
    have e1:len32 (2 * rtN B)≤200:=hl2
    have e2:len32 1≤200:=hd1'
    have e3:len32 (2 * rtN B + 1)≤200:=hl3
    unfold addN
    rw [if_neg (by omega),if_neg (by omega)]
  have h5:=fun (W:World) (q:Option Addr) (e:Nat) (q':Option Addr) (e':Nat) (ha:Arr W q (dig (2 * rtN B))) (hb:(dig (2 * rtN B)).length≤e) (ha':Arr W q' (dig 1)) (hb':(dig 1).length≤e')=>nadd_ q q' e e' (dig (2 * rtN B)) (dig 1) W ha ha' (Wd_dig _) (Wd_dig _) (by omega) (by omega) hb hb'
  rw [val_dig,val_dig,hadd] at h5
  have h6:=fun (W:World) (q:Option Addr) (e:Nat) (ha:Arr W q (dig (2 * rtN B))) (hb:(dig (2 * rtN B)).length≤e) (g:Kp w W)=>pof_ d false q e (dig (2 * rtN B)) (-1139) W (hT.grown g) (Fq.Tab.grown hQ g) hd1 hd2 ha (Wd_dig _) (by omega) hb
  have h7:=fun (W:World) (q:Option Addr) (e:Nat) (ha:Arr W q (dig (2 * rtN B + 1))) (hb:(dig (2 * rtN B + 1)).length≤e) (g:Kp w W)=>pof_ d false q e (dig (2 * rtN B + 1)) (-1139) W (hT.grown g) (Fq.Tab.grown hQ g) hd1 hd2 ha (Wd_dig _) (by omega) hb
  rw [val_dig] at h6 h7
  rw [show (((128:Nat)):Int) = 128 from rfl] at h1
  rw [show (((1:Nat)):Int) = 1 from rfl] at h3 h4
  by_cases c9:B = rtN B * rtN B
  · rw [if_pos c9,Nat.add_zero]
    rw [decide_eq_true c9] at h2
    generalize ofW d false (2 * rtN B) (-1139) = R at *
    generalize xs.length = LX at *
    dsimp only at h1 h2 h3
    clear hA hB hBB hr hrl hB32 hr32 hrt hR2 hR3 hl2 hl3 hd1' hadd h4 h5 h7 c9 hx hw hv hT hQ hd1 hd2 hl
    go_enter Tryz.func57,Tryz.ntmps57
    go_wp2_with (first | (go_at_call 91;with_reducible refine h1.mono ?_;rintro e w1 ⟨v1,rfl,o1,g1⟩;obtain ⟨p1,c1,rfl,a1,b1⟩:=o1.arr;have h2:=h2 w1 p1 c1 a1 b1;clear o1 a1 b1) | (go_at_call 92;refine h2.mono ?_;rintro e w2 ⟨v2,rfl,o2,g2⟩;obtain ⟨p2,c2,rfl,a2,b2⟩:=o2.arr;have h3:=h3 w2 p2 c2 a2 b2;clear o2 a2 b2) | (go_at_call 91;with_reducible refine h3.mono ?_;rintro e w3 ⟨v3,rfl,o3,g3⟩;obtain ⟨p3,c3,rfl,a3,b3⟩:=o3.arr;have h6:=h6 w3 p3 c3 a3 b3 ((g1.trans g2).trans g3);clear o3) | (go_at_call 50;refine h6.mono ?_;rintro e w6 ⟨rfl,g6⟩))
    exact bodyPost_ret (v:=.float .f64 R) (by simp [results,Tryz.results57,go_sem]) rfl ⟨rfl,((g1.trans g2).trans g3).trans g6⟩
  · rw [if_neg c9]
    rw [decide_eq_false c9] at h2
    generalize ofW d false (2 * rtN B + 1) (-1139) = R at *
    generalize xs.length = LX at *
    dsimp only at h1 h2 h3 h5
    clear hA hB hBB hr hrl hB32 hr32 hrt hR2 hR3 hl2 hl3 hd1' hadd c9 hx hw hv hT hQ hd1 hd2 hl
    go_enter Tryz.func57,Tryz.ntmps57
    go_wp2_with (first | (go_at_call 91;with_reducible refine h1.mono ?_;rintro e w1 ⟨v1,rfl,o1,g1⟩;obtain ⟨p1,c1,rfl,a1,b1⟩:=o1.arr;have h2:=h2 w1 p1 c1 a1 b1;clear o1 a1 b1) | (go_at_call 92;refine h2.mono ?_;rintro e w2 ⟨v2,rfl,o2,g2⟩;obtain ⟨p2,c2,rfl,a2,b2⟩:=o2.arr;have h3:=h3 w2 p2 c2 a2 b2;clear o2 a2 b2) | (go_at_call 91;with_reducible refine h3.mono ?_;rintro e w3 ⟨v3,rfl,o3,g3⟩;obtain ⟨p3,c3,rfl,a3,b3⟩:=o3.arr;have h6:=h6 w3 p3 c3 a3 b3 ((g1.trans g2).trans g3);clear o3) | (go_at_call 55;refine (h4 _).mono ?_;rintro e w4 ⟨v4,rfl,o4,g4⟩;obtain ⟨p4,c4,rfl,a4,b4⟩:=o4.arr;have h5:=h5 w4 p3 c3 p4 c4 (a3.grown g4) b3 a4 b4;clear o4 a4 b4 a3 b3) | (go_at_call 93;refine h5.mono ?_;rintro e w5 ⟨v5,rfl,o5,g5⟩;obtain ⟨p5,c5,rfl,a5,b5⟩:=o5.arr;have h7:=h7 w5 p5 c5 a5 b5 ((((g1.trans g2).trans g3).trans g4).trans g5);clear o5 a5 b5) | (go_at_call 50;refine h7.mono ?_;rintro e w6 ⟨rfl,g6⟩))
    exact bodyPost_ret (v:=.float .f64 R) (by simp [results,Tryz.results57,go_sem]) rfl ⟨rfl,(((((g1.trans g2).trans g3).trans g4).trans g5).trans g6)⟩

def rtW (d V s:Int):Nat:=if s = 0 then (if V < 0 then 9221120237041090561 else ofW d false (rtR V.natAbs) (-1139)) else if s = -1 then 9221120237041090561 else limW s

def ovW (d n V s:Int):Nat:=if n < 1 then 9221120237041090561 else if s = 0 then ratW d (decide (V < 0)) V.natAbs n.toNat (-2148) else limW s
def sgS (V s:Int):Int:=if s = 0 then sgV V else if s = 2 then 0 else s
theorem ststate_ (b:Nat) (V:Int) (k:Nat) (s:Int) (w:World) (h:St w b V k s):Calls Tryz.prog 26 #[.pointer (some ⟨b,0,none⟩)] w fun e w'=>e = .returned (.int .i64 s)∧w' = w:=by
  obtain ⟨ws,hR,hS⟩:=h
  exact state_ b ws k s w hS
def Sn (w:World) (b:Nat) (V s:Int) (n:Nat):Prop:=∃ k,k≤n∧St w b V k s
theorem Sn.kp {w w':World} {b:Nat} {V s:Int} {n:Nat} (h:Sn w b V s n) (g:Kp w w'):Sn w' b V s n:=by
  obtain ⟨k,h1,h2⟩:=h
  exact ⟨k,h1,h2.kp g⟩
theorem Sn.kb {w w':World} {b c:Nat} {V s:Int} {n:Nat} (h:Sn w b V s n) (g:Kb c w w') (hne:b≠c):Sn w' b V s n:=by
  obtain ⟨k,h1,h2⟩:=h
  exact ⟨k,h1,h2.kb g hne⟩
theorem Sn.lt {w:World} {b:Nat} {V s:Int} {n:Nat} (h:Sn w b V s n):b < w.heap.size:=by
  obtain ⟨k,h1,h2⟩:=h
  exact h2.lt
end Go.Proofs.YtfhcmabejagknaaGreatDoor
