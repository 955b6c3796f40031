import Derived.Test.YtcfnialfpblfmaaGreatDoorKH4Q
import Derived.Test.YtcfnialfpblfmaaGreatDoorKMR17
set_option maxHeartbeats 1000000
set_option maxRecDepth 20000
namespace Go.Proofs.YtcfnialfpblfmaaGreatDoor
open Go.RowKit
theorem stepped_ (d V:Int) (s o sz:Bool) (r ro K:Nat) (hK:53≤K) (hK2:K≤2096) (hv:V.natAbs < 2 ^ K) (hr1:r < 9218868437227405312) (hro:ro < 9218868437227405312) (hr:r = rgU 53 (rU 0 53 V.natAbs 1)) (hs:s = (if V = 0 then sz else decide (V < 0))) (ho:Iv o ro = V - Iv s r) (w:World) :
    Calls Tryz.prog 110 #[.int .i64 d,.float .f64 (Fq.wD s r),.float .f64 (Fq.wD o ro)] w fun e w'=>e = .returned (.float .f64 (sumW d V))∧Kp w w':=by
  obtain ⟨S1,S2,S3⟩:=step_w d V s o sz r ro K hK hK2 hv hr hs ho
  have hz:(0:Nat) = Fq.wD false 0:=rfl
  have hord:FloatKind.f64.format.order (Fq.wD o ro) 0 = some (compare (Fq.plz o ro) 0):=by
    rw [hz,Fq.ordD o false ro 0 (by omega) (by decide)];rfl
  obtain ⟨P,hP⟩:∃ P,P = Fq.plz o ro:=⟨_,rfl⟩
  rw [← hP] at S1 S2 S3 hord
  obtain ⟨O,hO⟩:∃ O,O = Fq.wD o ro:=⟨_,rfl⟩
  obtain ⟨Z,hZ⟩:∃ Z,Z = sumW d V:=⟨_,rfl⟩
  obtain ⟨N,hN⟩:∃ N,N = Fq.wD s r:=⟨_,rfl⟩
  rw [← hZ] at S1 S2 S3
  rw [← hO] at hord
  rw [← hO,← hZ,← hN]
  have hup:=fun h=>Fq.up_d s r (by omega) h w
  have hdn:=fun h=>Fq.dn_d s r (by omega) h w
  have hpl:=Fq.plain_d s r (by omega) w
  rw [← hN] at hup hdn hpl
  clear hO hN hZ hr hs ho hP hz hv hK hK2 hr1 hro
  by_cases c1:d = -1
  · by_cases c2:P < 0
    · obtain ⟨a1,a2⟩:=S1 c1 c2
      have hc:=hdn a1
      rw [a2] at hc
      have o1:(FloatKind.f64.format.order O 0 == some .lt) = true:=by rw [hord,Int.compare_eq_lt.2 c2];rfl
      subst c1
      clear S1 S2 S3 hup hdn hpl hord c2 a1 a2
      go_enter Tryz.func110,Tryz.ntmps110
      go_wp2_with fail
      refine hc.mono ?_;rintro e w1 ⟨rfl,hk⟩
      clear hc
      go_wp2
      exact bodyPost_ret (v:=.float .f64 Z) (by simp [results,Tryz.results110,go_sem]) rfl ⟨rfl,hk⟩
    · have hc:=hpl
      rw [S3 (fun h=>c2 h.2) (fun h=>by omega)] at hc
      have o1:(FloatKind.f64.format.order O 0 == some .lt) = false:=by
        rw [hord]
        rcases Int.lt_trichotomy P 0 with h | h | h
        · exact absurd h c2
        · rw [Int.compare_eq_eq.2 h];rfl
        · rw [Int.compare_eq_gt.2 h];rfl
      subst c1
      clear S1 S2 S3 hup hdn hpl hord c2
      go_enter Tryz.func110,Tryz.ntmps110
      go_wp2_with fail
      refine hc.mono ?_;rintro e w1 ⟨rfl,hw⟩
      obtain rfl:=hw.symm
      clear hc
      go_wp2
      exact bodyPost_ret (v:=.float .f64 Z) (by simp [results,Tryz.results110,go_sem]) rfl ⟨rfl,Kp.refl _⟩
  · have e1:(d == -1) = false:=by simp [c1]
    by_cases c3:d = 1
    · by_cases c2:0 < P
      · obtain ⟨a1,a2⟩:=S2 c3 c2
        have hc:=hup a1
        rw [a2] at hc
        have o1:(FloatKind.f64.format.order O 0 == some .gt) = true:=by rw [hord,Int.compare_eq_gt.2 c2];rfl
        subst c3
        clear S1 S2 S3 hup hdn hpl hord c2 a1 a2 c1
        go_enter Tryz.func110,Tryz.ntmps110
        go_wp2_with fail
        refine hc.mono ?_;rintro e w1 ⟨rfl,hk⟩
        clear hc
        go_wp2
        exact bodyPost_ret (v:=.float .f64 Z) (by simp [results,Tryz.results110,go_sem]) rfl ⟨rfl,hk⟩
      · have hc:=hpl
        rw [S3 (fun h=>c1 h.1) (fun h=>c2 h.2)] at hc
        have o1:(FloatKind.f64.format.order O 0 == some .gt) = false:=by
          rw [hord]
          rcases Int.lt_trichotomy P 0 with h | h | h
          · rw [Int.compare_eq_lt.2 h];rfl
          · rw [Int.compare_eq_eq.2 h];rfl
          · exact absurd h c2
        subst c3
        clear S1 S2 S3 hup hdn hpl hord c2 c1
        go_enter Tryz.func110,Tryz.ntmps110
        go_wp2_with fail
        refine hc.mono ?_;rintro e w1 ⟨rfl,hw⟩
        obtain rfl:=hw.symm
        clear hc
        go_wp2
        exact bodyPost_ret (v:=.float .f64 Z) (by simp [results,Tryz.results110,go_sem]) rfl ⟨rfl,Kp.refl _⟩
    · have e2:(d == 1) = false:=by simp [c3]
      have hc:=hpl
      rw [S3 (fun h=>c1 h.1) (fun h=>c3 h.1)] at hc
      clear S1 S2 S3 hup hdn hpl hord c1 c3
      go_enter Tryz.func110,Tryz.ntmps110
      go_wp2_with fail
      refine hc.mono ?_;rintro e w1 ⟨rfl,hw⟩
      obtain rfl:=hw.symm
      clear hc
      go_wp2
      exact bodyPost_ret (v:=.float .f64 Z) (by simp [results,Tryz.results110,go_sem]) rfl ⟨rfl,Kp.refl _⟩
theorem kfro {W w:World} {b o:Nat} (g:Kp W w) (h:b < W.heap.size):w.frozen? ⟨b,o,none⟩ = W.frozen? ⟨b,o,none⟩:=World.frozen?_of_block (w:=W) (Below.block g b h)
theorem tz0_ (w:World):Calls Tryz.prog 140 #[.int .u64 0] w fun e w'=>e = .returned (.int .i64 64)∧w' = w:=by
  go_enter Tryz.func140,Tryz.ntmps140
  go_wp2
  exact bodyPost_ret (v:=.int .i64 64) (by simp [results,Tryz.results140,go_sem]) rfl ⟨rfl,rfl⟩
theorem take_ (n:Bool) (m:Nat) (hm:m < 9218868437227405312) :
    ∃ (a:Nat) (ex:Int),a * 2 ^ (ex + 1074).toNat = Fq.vV Ieee.double m∧-1074≤ex∧ex≤2048∧a < 9007199254740992∧∀ w:World,Fq.Tab w→Calls Tryz.prog 113 #[.float .f64 (Fq.wD n m)] w fun e w'=>∃ v,e = .returned (.agg #[.bool (n && !(m == 0)),v,.int .i64 ex])∧Ls w' v (dig a)∧Kp w w':=by
  obtain ⟨v1,v2,v3,v4,v5⟩:=Fq.vlsgD m hm
  obtain ⟨X,hX⟩:∃ X,X = Fq.wD n m:=⟨_,rfl⟩
  obtain ⟨sg,hsg⟩:∃ sg,sg = Fq.sgD m:=⟨_,rfl⟩
  obtain ⟨ep,hep⟩:∃ ep,ep = Fq.epD m:=⟨_,rfl⟩
  obtain ⟨nn,hnn⟩:∃ nn:Bool,nn = (n && !(m == 0)):=⟨_,rfl⟩
  rw [← hsg,← hep] at v1
  rw [← hsg] at v2 v3
  rw [← hep] at v4 v5
  -- the odd part and its zeros
  obtain ⟨a,k,hk,hka,htz,hsh,ha⟩:∃ a k:Nat,a * 2 ^ (ep + (k:Int) + 1074).toNat = Fq.vV Ieee.double m∧k≤64∧(∀ w1,Fq.Tab w1→Calls Tryz.prog 140 #[.int .u64 (sg:Int)] w1 fun e w'=>e = .returned (.int .i64 (k:Int))∧w' = w1)∧(sg:Int) / 2 ^ min k 64 = (a:Int)∧a < 9007199254740992:=by
    by_cases c:sg = 0
    · refine ⟨0,64, ?_,by omega, ?_,by rw [c];simp,by omega⟩
      · have e:Fq.vV Ieee.double m = Fq.vlD m:=rfl
        rw [e,← v1,c];simp
      · intro w1 _
        rw [c];exact tz0_ w1
    · obtain ⟨o,o1,o2,o3,o4⟩:=ctz_odd sg c
      have hcl:blen sg≤53:=by rw [blen_le_iff,show (2:Nat) ^ 53 = 9007199254740992 from by decide];exact v2
      refine ⟨o,ctz sg, ?_,by omega, ?_, ?_, ?_⟩
      · have e:Fq.vV Ieee.double m = Fq.vlD m:=rfl
        rw [e,← v1,show (ep + ((ctz sg:Nat):Int) + 1074).toNat = ctz sg + (ep + 1074).toNat from by omega,Nat.pow_add,← Nat.mul_assoc,← o2]
      · intro w1 t1
        have h:=Fq.tz_ o (ctz sg) o1 (by rw [← o2];omega) w1 t1
        rw [← o2] at h
        exact h
      · rw [Nat.min_eq_left (by omega)]
        have:((sg / 2 ^ ctz sg:Nat):Int) = (o:Int):=by rw [o3]
        rw [← this,Int.natCast_ediv,castpow]
      · have:=Nat.div_le_self sg (2 ^ ctz sg);omega
  refine ⟨a,ep + (k:Int),hk,by omega,by omega,ha,fun w hQ=>?_⟩
  obtain ⟨w0,hw0⟩:∃ w0,w0 = w.alloc (.cells #[.bool false,.slice none 0 0,.int .i64 0] 105):=⟨_,rfl⟩
  obtain ⟨B,hB⟩:∃ B,B = w.heap.size:=⟨_,rfl⟩
  have hk0:Kp w w0:=by rw [hw0];exact (Kp.refl w).alloc _
  have hsp:=Fq.split_d n m hm w0
  rw [← hX,← hsg,← hep,← hnn] at hsp
  rw [← hX,← hnn]
  rw [Nat.min_eq_left hka] at hsh
  have hsm:=fun w1=>nsmall_ a (by omega) w1
  have htz2:=fun w1 (kk:Kp w0 w1)=>htz w1 (Fq.Tab.grown hQ (hk0.trans kk))
  have hal:∀ w1,Kp w0 w1→True:=fun _ _=>trivial
  have e0:w0.cell? ⟨B,0,none⟩ = some (.bool false):=by rw [hw0,hB];simp [go_sem]
  have e1:w0.cell? ⟨B,1,none⟩ = some (.slice none 0 0):=by rw [hw0,hB];simp [go_sem]
  have e2:w0.cell? ⟨B,2,none⟩ = some (.int .i64 0):=by rw [hw0,hB];simp [go_sem]
  have f0:w0.frozen? ⟨B,0,none⟩ = false:=by rw [hw0,hB];simp [go_sem]
  have f1:w0.frozen? ⟨B,1,none⟩ = false:=by rw [hw0,hB];simp [go_sem]
  have f2:w0.frozen? ⟨B,2,none⟩ = false:=by rw [hw0,hB];simp [go_sem]
  have hlt:=cell_lt e0
  have hep1:-1074≤ep:=v4
  have hep2:ep≤971:=v5
  have HW:Hid (w0 = w.alloc (.cells #[.bool false,.slice none 0 0,.int .i64 0] 105)∧B = w.heap.size∧Kp w w0):=⟨hw0,hB,hk0⟩
  clear hal v1 v2 v3 v4 v5 hX hsg hep hnn hw0 hB hk0 htz hQ hk ha hm
  go_enter Tryz.func113,Tryz.ntmps113
  go_wp2_with fail
  rw [← HW.out.1,← HW.out.2.1]
  refine hsp.mono ?_;rintro e w1 ⟨rfl,k1⟩
  have k1':Kp w0 w1:=k1
  have htz3:=htz2 w1 k1'
  clear hsp htz2 k1
  go_wp2_with fail
  refine htz3.mono ?_;rintro e w' ⟨rfl,hw'⟩;obtain rfl:=hw'.symm;clear hw' htz3
  have hs2:=hsm w1
  clear hsm
  go_wp2_with fail
  try rw [hsh]
  refine hs2.mono ?_;rintro e w2 ⟨v,rfl,ho,k2⟩
  have hls:=ho.ls
  obtain ⟨pv,cv,rfl,hav,hcv⟩:=ho.arr
  have k02:=k1'.trans k2
  have hlt2:=ho.lt
  replace e0:=kkeep k02 e0
  replace e1:=kkeep k02 e1
  replace e2:=kkeep k02 e2
  replace f0:=(kfro k02 hlt).trans f0
  replace f1:=(kfro k02 hlt).trans f1
  replace f2:=(kfro k02 hlt).trans f2
  have hks:=Below.size k1'
  obtain ⟨L,hL⟩:∃ L,L = (dig a).length:=⟨_,rfl⟩
  rw [← hL]
  have HO:Hid (Own w2 w1.heap.size (.slice pv (dig a).length cv) (dig a)∧L = (dig a).length∧Kp w0 w2∧B < w1.heap.size):=⟨ho,hL,k02,by omega⟩
  clear hs2 ho hls hav hcv k1' k2 k02 hlt2 hL hks
  go_wp2
  obtain ⟨ho,hL,k02,hBl⟩:=HO.out
  have kb:Kb B w2 (((w2.setCell ⟨B,0,none⟩ (.bool nn)).setCell ⟨B,1,none⟩ (.slice pv L cv)).setCell ⟨B,2,none⟩ (.int .i64 (ep + (k:Int)))):=(((Kb.refl B w2).setCell 0 _).setCell 1 _).setCell 2 _
  have ho2:=ho.kb kb (fun g hg=>by have:=ho.lt g hg;omega)
  have hls:=ho2.ls
  rw [← hL] at hls
  have hkw:Kp w (((w2.setCell ⟨B,0,none⟩ (.bool nn)).setCell ⟨B,1,none⟩ (.slice pv L cv)).setCell ⟨B,2,none⟩ (.int .i64 (ep + (k:Int)))):=kb.kp (HW.out.2.2.trans k02) (by rw [HW.out.2.1];exact Nat.le_refl _)
  exact bodyPost_ret (v:=.agg #[.bool nn,.slice pv L cv,.int .i64 (ep + (k:Int))]) (by simp [results,Tryz.results113,go_sem,e0,e1,e2]) rfl ⟨_,rfl,hls,hkw⟩
theorem halves_ (n:Bool) (m:Nat) (hm:m < 9218868437227405312) (e:Nat) (he:e≤1960) (hU:((2 ^ e:Nat):Int) ∣ Iv n m) (b1:4503599627370496 * 2 ^ e≤(Iv n m).natAbs) (b2:(Iv n m).natAbs < 9007199254740992 * 2 ^ e) :
    ∃ (h l:Bool) (hr lr:Nat),(∀ w:World,Calls Tryz.prog 136 #[.float .f64 (Fq.wD n m)] w fun e w'=>e = .returned (.tuple #[.float .f64 (Fq.wD h hr),.float .f64 (Fq.wD l lr)])∧w' = w)∧hr < 9218868437227405312∧lr < 9218868437227405312∧∃ a b:Int,Iv h hr = 134217728 * (((2 ^ e:Nat):Int) * a)∧Iv l lr = ((2 ^ e:Nat):Int) * b∧Iv n m = Iv h hr + Iv l lr∧a.natAbs≤67108864∧b.natAbs≤67108864:=by
  obtain ⟨c,g,h,l,cr,gr,hr,lr,e1,e2,e3,e4,h1,h2,h3⟩:=half_words n m hm e he hU b1 b2
  refine ⟨h,l,hr,lr,fun w=>?_,h1,h2,h3⟩
  obtain ⟨X,hX⟩:∃ X,X = Fq.wD n m:=⟨_,rfl⟩
  obtain ⟨C,hC⟩:∃ C,C = Fq.wD c cr:=⟨_,rfl⟩
  obtain ⟨G,hG⟩:∃ G,G = Fq.wD g gr:=⟨_,rfl⟩
  obtain ⟨H,hH⟩:∃ H,H = Fq.wD h hr:=⟨_,rfl⟩
  obtain ⟨L,hL⟩:∃ L,L = Fq.wD l lr:=⟨_,rfl⟩
  rw [show Fq.wD false 4728779608772575232 = 4728779608772575232 from rfl,← hX,← hC] at e1
  rw [← hC,← hX,← hG] at e2
  rw [← hC,← hG,← hH] at e3
  rw [← hX,← hH,← hL] at e4
  rw [← hX,← hH,← hL]
  have g1:∀ w:World,(binOp .mul 22 (.float .f64 X) (.float .f64 4728779608772575232)).run Tryz.prog w = .ok (.float .f64 C) w:=fun w=>run_float_arith w .mul 22 .f64 X 4728779608772575232 C e1
  have g2:∀ w:World,(binOp .sub 22 (.float .f64 C) (.float .f64 X)).run Tryz.prog w = .ok (.float .f64 G) w:=fun w=>run_float_arith w .sub 22 .f64 C X G e2
  have g3:∀ w:World,(binOp .sub 22 (.float .f64 C) (.float .f64 G)).run Tryz.prog w = .ok (.float .f64 H) w:=fun w=>run_float_arith w .sub 22 .f64 C G H e3
  have g4:∀ w:World,(binOp .sub 22 (.float .f64 X) (.float .f64 H)).run Tryz.prog w = .ok (.float .f64 L) w:=fun w=>run_float_arith w .sub 22 .f64 X H L e4
  clear hX hC hG hH hL e1 e2 e3 e4 h1 h2 h3 hm hU b1 b2
  go_enter Tryz.func136,Tryz.ntmps136
  go_wp2
  exact bodyPost_ret (v:=.tuple #[.float .f64 H,.float .f64 L]) (by simp [results,Tryz.results136,go_sem]) rfl ⟨rfl,rfl⟩
theorem twoProduct_ (n n':Bool) (m m' e e':Nat) (hm:m < 9218868437227405312) (hm':m' < 9218868437227405312) (he:e≤1960) (he':e'≤1960) (s1:1074≤e + e') (s2:e + e'≤2944) (hU:((2 ^ e:Nat):Int) ∣ Iv n m) (b1:4503599627370496 * 2 ^ e≤(Iv n m).natAbs) (b2:(Iv n m).natAbs < 9007199254740992 * 2 ^ e) (hU':((2 ^ e':Nat):Int) ∣ Iv n' m') (b3:4503599627370496 * 2 ^ e'≤(Iv n' m').natAbs) (b4:(Iv n' m').natAbs < 9007199254740992 * 2 ^ e') (L:Nat) (hL:L = 1074) :
    ∃ (V:Int) (s o:Bool) (r ro K:Nat),V * ((2 ^ L:Nat):Int) = Iv n m * Iv n' m'∧(∀ w:World,Calls Tryz.prog 109 #[.float .f64 (Fq.wD n m),.float .f64 (Fq.wD n' m')] w fun e w'=>e = .returned (.tuple #[.float .f64 (Fq.wD s r),.float .f64 (Fq.wD o ro)])∧w' = w)∧r < 9218868437227405312∧ro < 9218868437227405312∧r = rgU 53 (rU 0 53 V.natAbs 1)∧s = (if V = 0 then n ^^ n' else decide (V < 0))∧Iv o ro = V - Iv s r∧53≤K∧K≤2096∧V.natAbs < 2 ^ K:=by
  obtain ⟨h,l,hr,lr,k1,f1,f2,a,b,ga,gb,gx,la,lb⟩:=halves_ n m hm e he hU b1 b2
  obtain ⟨h',l',hr',lr',k2,f3,f4,a',b',ga',gb',gx',la',lb'⟩:=halves_ n' m' hm' e' he' hU' b3 b4
  obtain ⟨V,s,p1,q1,p2,q2,p3,q3,p4,o,r,pr1,qr1,pr2,qr2,pr3,qr3,pr4,ro,K,zV,w0,w1,w2,w3,w4,w5,w6,w7,w8,r0,r8,e0,e0',hex,K1,K2,kV⟩:=prod_words n n' h l h' l' m m' hr lr hr' lr' e e' hm hm' f1 f2 f3 f4 s1 s2 b1 b2 b3 b4 a b a' b' ga gb gx la lb ga' gb' gx' la' lb' L hL
  refine ⟨V,s,o,r,ro,K,zV,fun w=>?_,r0,r8,e0,e0',hex,K1,K2,kV⟩
  clear zV r0 r8 e0 e0' hex K1 K2 kV ga gb gx la lb ga' gb' gx' la' lb' f1 f2 f3 f4 hU b1 b2 hU' b3 b4 s1 s2 hm hm' he he' hL
  obtain ⟨X,hX⟩:∃ X,X = Fq.wD n m:=⟨_,rfl⟩
  obtain ⟨Y,hY⟩:∃ Y,Y = Fq.wD n' m':=⟨_,rfl⟩
  obtain ⟨S,hS⟩:∃ S,S = Fq.wD s r:=⟨_,rfl⟩
  obtain ⟨H1,hH1⟩:∃ H1,H1 = Fq.wD h hr:=⟨_,rfl⟩
  obtain ⟨L1,hL1⟩:∃ L1,L1 = Fq.wD l lr:=⟨_,rfl⟩
  obtain ⟨H2,hH2⟩:∃ H2,H2 = Fq.wD h' hr':=⟨_,rfl⟩
  obtain ⟨L2,hL2⟩:∃ L2,L2 = Fq.wD l' lr':=⟨_,rfl⟩
  obtain ⟨P1,hP1⟩:∃ P1,P1 = Fq.wD p1 pr1:=⟨_,rfl⟩
  obtain ⟨P2,hP2⟩:∃ P2,P2 = Fq.wD p2 pr2:=⟨_,rfl⟩
  obtain ⟨P3,hP3⟩:∃ P3,P3 = Fq.wD p3 pr3:=⟨_,rfl⟩
  obtain ⟨P4,hP4⟩:∃ P4,P4 = Fq.wD p4 pr4:=⟨_,rfl⟩
  obtain ⟨Q1,hQ1⟩:∃ Q1,Q1 = Fq.wD q1 qr1:=⟨_,rfl⟩
  obtain ⟨Q2,hQ2⟩:∃ Q2,Q2 = Fq.wD q2 qr2:=⟨_,rfl⟩
  obtain ⟨Q3,hQ3⟩:∃ Q3,Q3 = Fq.wD q3 qr3:=⟨_,rfl⟩
  obtain ⟨O,hO⟩:∃ O,O = Fq.wD o ro:=⟨_,rfl⟩
  rw [← hX,← hY,← hS] at w0
  rw [← hH1,← hH2,← hP1] at w1
  rw [← hS,← hP1,← hQ1] at w2
  rw [← hL1,← hH2,← hP2] at w3
  rw [← hQ1,← hP2,← hQ2] at w4
  rw [← hH1,← hL2,← hP3] at w5
  rw [← hQ2,← hP3,← hQ3] at w6
  rw [← hL1,← hL2,← hP4] at w7
  rw [← hP4,← hQ3,← hO] at w8
  rw [← hX,← hH1,← hL1] at k1
  rw [← hY,← hH2,← hL2] at k2
  rw [← hX,← hY,← hS,← hO]
  have g0:∀ w:World,(binOp .mul 22 (.float .f64 X) (.float .f64 Y)).run Tryz.prog w = .ok (.float .f64 S) w:=fun w=>run_float_arith w .mul 22 .f64 X Y S w0
  have g1:∀ w:World,(binOp .mul 22 (.float .f64 H1) (.float .f64 H2)).run Tryz.prog w = .ok (.float .f64 P1) w:=fun w=>run_float_arith w .mul 22 .f64 H1 H2 P1 w1
  have g2:∀ w:World,(binOp .sub 22 (.float .f64 S) (.float .f64 P1)).run Tryz.prog w = .ok (.float .f64 Q1) w:=fun w=>run_float_arith w .sub 22 .f64 S P1 Q1 w2
  have g3:∀ w:World,(binOp .mul 22 (.float .f64 L1) (.float .f64 H2)).run Tryz.prog w = .ok (.float .f64 P2) w:=fun w=>run_float_arith w .mul 22 .f64 L1 H2 P2 w3
  have g4:∀ w:World,(binOp .sub 22 (.float .f64 Q1) (.float .f64 P2)).run Tryz.prog w = .ok (.float .f64 Q2) w:=fun w=>run_float_arith w .sub 22 .f64 Q1 P2 Q2 w4
  have g5:∀ w:World,(binOp .mul 22 (.float .f64 H1) (.float .f64 L2)).run Tryz.prog w = .ok (.float .f64 P3) w:=fun w=>run_float_arith w .mul 22 .f64 H1 L2 P3 w5
  have g6:∀ w:World,(binOp .sub 22 (.float .f64 Q2) (.float .f64 P3)).run Tryz.prog w = .ok (.float .f64 Q3) w:=fun w=>run_float_arith w .sub 22 .f64 Q2 P3 Q3 w6
  have g7:∀ w:World,(binOp .mul 22 (.float .f64 L1) (.float .f64 L2)).run Tryz.prog w = .ok (.float .f64 P4) w:=fun w=>run_float_arith w .mul 22 .f64 L1 L2 P4 w7
  have g8:∀ w:World,(binOp .sub 22 (.float .f64 P4) (.float .f64 Q3)).run Tryz.prog w = .ok (.float .f64 O) w:=fun w=>run_float_arith w .sub 22 .f64 P4 Q3 O w8
  clear hX hY hS hH1 hL1 hH2 hL2 hP1 hP2 hP3 hP4 hQ1 hQ2 hQ3 hO w0 w1 w2 w3 w4 w5 w6 w7 w8
  go_enter Tryz.func109,Tryz.ntmps109
  go_wp2_with fail
  refine (k1 _).mono ?_;rintro e w' ⟨rfl,hw'⟩;obtain rfl:=hw'.symm;clear hw' k1
  go_wp2_with fail
  refine (k2 _).mono ?_;rintro e w' ⟨rfl,hw'⟩;obtain rfl:=hw'.symm;clear hw' k2
  go_wp2
  exact bodyPost_ret (v:=.tuple #[.float .f64 S,.float .f64 O]) (by simp [results,Tryz.results109,go_sem]) rfl ⟨rfl,rfl⟩
end Go.Proofs.YtcfnialfpblfmaaGreatDoor
