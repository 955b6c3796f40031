import Derived.Test.YtfhcmabejagknaaGreatDoorKTVb
set_option maxHeartbeats 40000000
set_option maxRecDepth 20000
namespace Go.Proofs.YtfhcmabejagknaaGreatDoor
open Go.RowKit
set_option linter.unusedVariables false
set_option linter.unusedSimpArgs false
theorem tplays_ (K:Nat) (hK:K = 1074) (p:Option Addr) (c:Nat) (L:List Stp) (hok:StpOk L) (hl:L.length≤1048576) (w:World) (ha:ArrP w p L) (hT:Tab w) (hQ:Fq.Tab w):Calls Tryz.prog 3 #[.slice p L.length c] w fun e w'=>e = .returned (.bool true)∧Kp w w':=by
  obtain ⟨Nn,hN⟩:∃ Nn,Nn = L.length:=⟨_,rfl⟩
  rw [← hN]
  have hNl:Nn≤1048576:=by rw [hN];exact hl
  have hm0:(w.alloc (.cells #[.pointer none,.pointer none,.pointer none,.pointer none] 24)).rowIs w.heap.size 24 4 (fun _=>.pointer none):=World.rowIs_alloc w #[.pointer none,.pointer none,.pointer none,.pointer none] 24 (fun _=>.pointer none) (fun i hi=>by
    have hi:i < 4:=hi
    rcases (by omega:i = 0∨i = 1∨i = 2∨i = 3) with rfl | rfl | rfl | rfl <;> rfl)
  have hd0:=World.rowIs_alloc (w.alloc (.cells #[.pointer none,.pointer none,.pointer none,.pointer none] 24)) #[.bool false,.slice none 0 0,.slice none 0 0,.bool false,.bool false,.bool false,.int .u64 0,.bool false,.slice none 0 0,.slice none 0 0,.bool false,.bool false,.bool false,.int .u64 0,.bool false,.slice none 0 0,.slice none 0 0,.bool false,.bool false,.bool false,.int .u64 0,.bool false,.slice none 0 0,.slice none 0 0,.bool false,.bool false,.bool false,.int .u64 0] 31 (fun q=>sev (.bool false) (.slice none 0 0) (.slice none 0 0) (.bool false) (.bool false) (.bool false) (.int .u64 0) (q % 7)) (fun i hi=>by
    have hi:i < 28:=hi
    have:∀ i:Nat,i < 28→(#[.bool false,.slice none 0 0,.slice none 0 0,.bool false,.bool false,.bool false,.int .u64 0,.bool false,.slice none 0 0,.slice none 0 0,.bool false,.bool false,.bool false,.int .u64 0,.bool false,.slice none 0 0,.slice none 0 0,.bool false,.bool false,.bool false,.int .u64 0,.bool false,.slice none 0 0,.slice none 0 0,.bool false,.bool false,.bool false,.int .u64 0]:Array Value)[i]? = some (sev (.bool false) (.slice none 0 0) (.slice none 0 0) (.bool false) (.bool false) (.bool false) (.int .u64 0) (i % 7)):=by
      intro i h
      rcases (by omega:i = 0∨i = 1∨i = 2∨i = 3∨i = 4∨i = 5∨i = 6∨i = 7∨i = 8∨i = 9∨i = 10∨i = 11∨i = 12∨i = 13∨i = 14∨i = 15∨i = 16∨i = 17∨i = 18∨i = 19∨i = 20∨i = 21∨i = 22∨i = 23∨i = 24∨i = 25∨i = 26∨i = 27) with rfl | rfl | rfl | rfl | rfl | rfl | rfl | rfl | rfl | rfl | rfl | rfl | rfl | rfl | rfl | rfl | rfl | rfl | rfl | rfl | rfl | rfl | rfl | rfl | rfl | rfl | rfl | rfl <;> rfl
    exact this i hi)
  have hsz:(w.alloc (.cells #[.pointer none,.pointer none,.pointer none,.pointer none] 24)).heap.size = w.heap.size + 1:=by simp
  rw [hsz] at hd0
  have hp0:Pi w ((w.alloc (.cells #[.pointer none,.pointer none,.pointer none,.pointer none] 24)).alloc (.cells #[.bool false,.slice none 0 0,.slice none 0 0,.bool false,.bool false,.bool false,.int .u64 0,.bool false,.slice none 0 0,.slice none 0 0,.bool false,.bool false,.bool false,.int .u64 0,.bool false,.slice none 0 0,.slice none 0 0,.bool false,.bool false,.bool false,.int .u64 0,.bool false,.slice none 0 0,.slice none 0 0,.bool false,.bool false,.bool false,.int .u64 0] 31)) w.heap.size (w.heap.size + 1) K 0 0 (fun _=>0) (fun _ i=>sev (.bool false) (.slice none 0 0) (.slice none 0 0) (.bool false) (.bool false) (.bool false) (.int .u64 0) i):=by
    refine ⟨World.rowIs.congr (World.rowIs.of_block hm0 (Below.block ((Kp.refl _).alloc _) _ (World.rowIs.lt hm0))) (fun j _=>by simp),hd0,fun j h=>absurd h (Nat.not_lt_zero _),fun j h=>absurd h (Nat.not_lt_zero _),fun j _ h=>absurd h (Nat.not_lt_zero _),Nat.le_refl _,by omega,((Kp.refl w).alloc _).alloc _⟩
  have HN:Hid (Nn = L.length∧ArrP w p L∧StpOk L∧K = 1074∧Tab w∧Fq.Tab w):=⟨hN,ha,hok,hK,hT,hQ⟩
  clear hm0 hd0 hsz hok hl ha hT hQ hN hK
  go_enter Tryz.func3,Tryz.ntmps3
  go_upto_region 3 with fail
  generalize ((w.alloc (.cells #[.pointer none,.pointer none,.pointer none,.pointer none] 24)).alloc (.cells #[.bool false,.slice none 0 0,.slice none 0 0,.bool false,.bool false,.bool false,.int .u64 0,.bool false,.slice none 0 0,.slice none 0 0,.bool false,.bool false,.bool false,.int .u64 0,.bool false,.slice none 0 0,.slice none 0 0,.bool false,.bool false,.bool false,.int .u64 0,.bool false,.slice none 0 0,.slice none 0 0,.bool false,.bool false,.bool false,.int .u64 0] 31)) = W0 at *
  generalize hbm:w.heap.size = bm at *
  clear hbm
  go_wp2
  go_loopw [5] (fun ii wr=>∃ (i:Nat) (B:Nat→Nat) (D:Nat→Nat→Value),ii = .int .i64 (i:Int)∧i≤4∧Pi w wr bm (bm + 1) K i i B D) (fun ii _=>4 - (intOf ii).toNat)
  case atStart=>exact ⟨0,_,_,rfl,by omega,hp0⟩
  case round =>
    clear hp0
    obtain ⟨i,B,D,rfl,hi,hp⟩:=hrel
    by_cases ci:i < 4
    · have t1:(i:Int) < 4:=by omega
      have t0:(0:Int)≤(i:Int):=by omega
      have m0:=World.rowIs.cell hp.mine ci
      have z0:=World.rowIs.frozen hp.mine i
      have HP:Hid (Pi w wr bm (bm + 1) K i i B D):=hp
      clear hp
      go_upto_region 7 with (first | (go_at_call 4;refine (new_ _).mono ?_;rintro e w1 ⟨rfl,hS1,g1⟩;replace m0:=kkeep g1 m0;replace z0:=(kfro g1 (World.rowIs.lt HP.out.mine)).trans z0))
      have hp1:=HP.out.kp g1
      have hb9:wr.heap.size < w1.heap.size:=hS1.2.lt
      obtain ⟨hp2,kb2,ty2⟩:=hp1.point wr.heap.size hb9 (World.rowIs.lt HP.out.docs) (fun j hj=>(HP.out.blk j hj).2)
      have hSt:St w1 wr.heap.size 0 0 0:=⟨_,Rep.zero,hS1⟩
      have hl9:bm + 1 < wr.heap.size:=World.rowIs.lt HP.out.docs
      have hSt2:=hSt.kb kb2 (by omega)
      clear HP hp1 hb9 hSt ty2 kb2 m0 z0 hS1 g1
      generalize w1.setCell ⟨bm,i,none⟩ (.pointer (some ⟨wr.heap.size,0,none⟩)) = W2 at *
      generalize wr.heap.size = b9 at *
      obtain ⟨e0,f0⟩:W2.cell? ⟨bm + 1,i * 7,none⟩ = some (D i 0)∧W2.frozen? ⟨bm + 1,i * 7,none⟩ = false:=hp2.cells i ci 0 (by decide)
      obtain ⟨e1,f1⟩:=hp2.cells i ci 1 (by decide)
      obtain ⟨e2,f2⟩:=hp2.cells i ci 2 (by decide)
      obtain ⟨e3,f3⟩:=hp2.cells i ci 3 (by decide)
      obtain ⟨e4,f4⟩:=hp2.cells i ci 4 (by decide)
      obtain ⟨e5,f5⟩:=hp2.cells i ci 5 (by decide)
      obtain ⟨e6,f6⟩:=hp2.cells i ci 6 (by decide)
      have HP:Hid (Pi w W2 bm (bm + 1) K (i + 1) i (fun j=>if j = i then b9 else B j) D∧St W2 b9 0 0 0∧bm + 1 < b9):=⟨hp2,hSt2,hl9⟩
      clear hp2 hSt2 hl9
      go_upto_region 8 with (first | (go_at_call 5;refine (rNew_ K 0 _).mono ?_;rintro e w3 ⟨s3,p3,l3,c3,q3,k3,d3,P3,M3,N3,T3,rfl,hP3,hM3,hN3,hT3,hR3,g3⟩;replace f0:=(kfro g3 (cell_lt e0)).trans f0;replace e0:=kkeep g3 e0;replace f1:=(kfro g3 (cell_lt e1)).trans f1;replace e1:=kkeep g3 e1;replace f2:=(kfro g3 (cell_lt e2)).trans f2;replace e2:=kkeep g3 e2;replace f3:=(kfro g3 (cell_lt e3)).trans f3;replace e3:=kkeep g3 e3;replace f4:=(kfro g3 (cell_lt e4)).trans f4;replace e4:=kkeep g3 e4;replace f5:=(kfro g3 (cell_lt e5)).trans f5;replace e5:=kkeep g3 e5;replace f6:=(kfro g3 (cell_lt e6)).trans f6;replace e6:=kkeep g3 e6))
      obtain ⟨hp2,hSt2,hl9⟩:=HP.out
      have hp3:=hp2.kp g3
      obtain ⟨hp4,kb4,ty4⟩:=hp3.doc ci (i * 7) rfl (.bool s3) (.slice p3 l3 c3) (.slice q3 k3 d3) (.bool false) (.bool false) (.bool false) (.int .u64 0)
      have hs4:=(hSt2.kp g3).kb kb4 (show b9≠bm + 1 by omega)
      subst hP3 hM3 hN3 hT3
      have hr4:=hR3.kb kb4 ty4
      have hf4:=Slt.fresh 0 hs4 hr4
      have hp5:=hp4.close (by simpa using hf4)
      have m0:(((((((w3.setCell ⟨bm + 1,i * 7,none⟩ (.bool s3)).setCell ⟨bm + 1,i * 7 + 1,none⟩ (.slice p3 l3 c3)).setCell ⟨bm + 1,i * 7 + 2,none⟩ (.slice q3 k3 d3)).setCell ⟨bm + 1,i * 7 + 3,none⟩ (.bool false)).setCell ⟨bm + 1,i * 7 + 4,none⟩ (.bool false)).setCell ⟨bm + 1,i * 7 + 5,none⟩ (.bool false)).setCell ⟨bm + 1,i * 7 + 6,none⟩ (.int .u64 0)).cell? ⟨bm,i,none⟩ = some (.pointer (some ⟨b9,0,none⟩)):=by
        have:=World.rowIs.cell hp5.mine (i:=i) ci
        simpa using this
      clear HP hp2 hSt2 hp3 hp4 kb4 ty4 hs4 hr4 hf4 hR3 e0 f0 e1 f1 e2 f2 e3 f3 e4 f4 e5 f5 e6 f6
      generalize (((((((w3.setCell ⟨bm + 1,i * 7,none⟩ (.bool s3)).setCell ⟨bm + 1,i * 7 + 1,none⟩ (.slice p3 l3 c3)).setCell ⟨bm + 1,i * 7 + 2,none⟩ (.slice q3 k3 d3)).setCell ⟨bm + 1,i * 7 + 3,none⟩ (.bool false)).setCell ⟨bm + 1,i * 7 + 4,none⟩ (.bool false)).setCell ⟨bm + 1,i * 7 + 5,none⟩ (.bool false)).setCell ⟨bm + 1,i * 7 + 6,none⟩ (.int .u64 0)) = W4 at *
      have hlv:=fun (W:World) (g:Kp w W)=>lives_ W (HN.out.2.2.2.2.1.grown g) (Fq.Tab.grown HN.out.2.2.2.2.2 g)
      have HP:Hid (Pi w W4 bm (bm + 1) K (i + 1) (i + 1) (fun j=>if j = i then b9 else B j) (fun j q=>if j = i then sev (.bool s3) (.slice p3 l3 c3) (.slice q3 k3 d3) (.bool false) (.bool false) (.bool false) (.int .u64 0) q else D j q)):=hp5
      have ko:=hp5.old
      clear hp5
      go_wp2_with (first | (go_at_call 6;refine (hlv _ ko).mono ?_;rintro e w5 ⟨rfl,g5⟩))
      have hp6:=HP.out.kp g5
      exact ⟨⟨i + 1,_,_,by go_num,by omega,hp6⟩,by simp [intOf];omega⟩
    · have hi4:i = 4:=by omega
      subst hi4
      have ho:=hp.all
      clear hp ci hi
      go_wp2
      go_loopw [6] (fun ii wr=>∃ (i:Nat) (B:Nat→Nat) (D:Nat→Nat→Value),ii = .int .i64 (i:Int)∧i≤Nn∧i≤2000∧Po w wr bm (bm + 1) K i 4 B D) (fun ii _=>2000 - (intOf ii).toNat)
      case atStart=>exact ⟨0,_,_,rfl,by omega,by omega,ho⟩
      case round =>
        clear ho B D
        obtain ⟨i,B,D,rfl,hiN,hi2,ho⟩:=hrel
        by_cases cc:i < Nn∧i < 2000
        · obtain ⟨c1,c2⟩:=cc
          have u1:(i:Int) < (Nn:Int):=by omega
          have u2:(i:Int) < 2000:=by omega
          have u0:(0:Int)≤(i:Int):=by omega
          obtain ⟨hN,ha,hok,hK,hT,hQ⟩:=HN.out
          rcases ha with hnil | ⟨b,off,rfl,hc⟩
          · exfalso
            rw [hnil] at hN
            simp at hN
            omega
          obtain ⟨a0,a1,a2,a3,a4,a5,a6⟩:=hc i (by omega)
          obtain ⟨x1,x2,x3,x4⟩:=hok i (by omega)
          generalize L.getD i (0,0,0,0,0,0,0) = P9 at *
          obtain ⟨O,S,T,X,Y,d,m⟩:=P9
          simp only at a0 a1 a2 a3 a4 a5 a6 x1 x2 x3 x4
          replace a0:=kkeep ho.old a0
          replace a1:=kkeep ho.old a1
          replace a2:=kkeep ho.old a2
          replace a3:=kkeep ho.old a3
          replace a4:=kkeep ho.old a4
          replace a5:=kkeep ho.old a5
          replace a6:=kkeep ho.old a6
          clear hc hok hN
          have hlw:=ho.blk
          have HO:Hid (Po w wr bm (bm + 1) K i 4 B D):=ho
          clear ho
          go_upto_region 14 with fail
          have h7:=H7c.new wr (.int .i64 O) (.int .i64 S) (.int .i64 T) (.int .u64 (X:Int)) (.int .u64 (Y:Int)) (.int .i64 d) (.int .i64 m) 36
          have kA:Kp wr (wr.alloc (.cells #[.int .i64 O,.int .i64 S,.int .i64 T,.int .u64 (X:Int),.int .u64 (Y:Int),.int .i64 d,.int .i64 m] 36)):=(Kp.refl wr).alloc _
          have ho:=HO.out.kp kA
          have hbp:bm + 1 < wr.heap.size:=World.rowIs.lt HO.out.docs
          have hBp:∀ j,j < 4→B j < wr.heap.size:=fun j hj=>(hlw j hj).2
          clear HO a0 a1 a2 a3 a4 a5 a6 kA hlw
          generalize (wr.alloc (.cells #[.int .i64 O,.int .i64 S,.int .i64 T,.int .u64 (X:Int),.int .u64 (Y:Int),.int .i64 d,.int .i64 m] 36)) = W1 at *
          generalize wr.heap.size = bp at *
          obtain ⟨r0,r1,r2,r3,r4,r5,r6,r7,r8,r9,r10,r11,r12,r13⟩:=id h7
          obtain ⟨s,hs4,hslS⟩:=slot_ S
          obtain ⟨t,ht4,hslT⟩:=slot_ T
          have ts0:(0:Int)≤(s:Int):=by omega
          have ts1:(s:Int) < 4:=by omega
          have tt0:(0:Int)≤(t:Int):=by omega
          have tt1:(t:Int) < 4:=by omega
          go_upto_region 17 with (first | (go_at_call_of 7 (Value.int .i64 S);refine (hslS _).mono ?_;rintro e w' ⟨rfl,hw'⟩;obtain rfl:=hw'.symm;clear hw') | (go_at_call_of 7 (Value.int .i64 T);refine (hslT _).mono ?_;rintro e w' ⟨rfl,hw'⟩;obtain rfl:=hw'.symm;clear hw'))
          by_cases o0:O = 0
          · subst o0
            obtain ⟨hp,hsl⟩:=ho.opens s hs4
            obtain ⟨m0,z0⟩:=ho.ptr s hs4
            clear ho hsl hslS hslT h7 r0 r1 r2 r3 r4 r5 r6 r7 r8 r9 r10 r11 r12 r13
            go_upto_region 19 with (first | (go_at_call 4;refine (new_ _).mono ?_;rintro e w2 ⟨rfl,hS2,g2⟩;replace z0:=(kfro g2 (cell_lt m0)).trans z0;replace m0:=kkeep g2 m0))
            have hl9:bm + 1 < W1.heap.size:=World.rowIs.lt hp.docs
            have hb9:W1.heap.size < w2.heap.size:=hS2.2.lt
            have hq2:=(hp.kp g2).point hs4 W1.heap.size hb9 hl9 (fun j hj _=>by have:=(hp.blk j hj).2;omega)
            have hSt:St w2 W1.heap.size 0 0 0:=⟨_,Rep.zero,hS2⟩
            have hSt2:=hSt.kb ((Kb.refl bm w2).setCell s (.pointer (some ⟨W1.heap.size,0,none⟩))) (by omega)
            clear hSt hb9 hS2 g2 m0 z0 hp
            generalize w2.setCell ⟨bm,s,none⟩ (.pointer (some ⟨W1.heap.size,0,none⟩)) = W2 at *
            generalize W1.heap.size = b9 at *
            obtain ⟨e0,f0⟩:W2.cell? ⟨bm + 1,s * 7,none⟩ = some (D s 0)∧W2.frozen? ⟨bm + 1,s * 7,none⟩ = false:=hq2.cells s hs4 0 (by decide)
            obtain ⟨e1,f1⟩:=hq2.cells s hs4 1 (by decide)
            obtain ⟨e2,f2⟩:=hq2.cells s hs4 2 (by decide)
            obtain ⟨e3,f3⟩:=hq2.cells s hs4 3 (by decide)
            obtain ⟨e4,f4⟩:=hq2.cells s hs4 4 (by decide)
            obtain ⟨e5,f5⟩:=hq2.cells s hs4 5 (by decide)
            obtain ⟨e6,f6⟩:=hq2.cells s hs4 6 (by decide)
            have HP:Hid (Po w W2 bm (bm + 1) K i s (fun j=>if j = s then b9 else B j) D∧St W2 b9 0 0 0∧bm + 1 < b9):=⟨hq2,hSt2,hl9⟩
            clear hq2 hSt2 hl9
            go_upto_region 20 with (first | (go_at_call 5;refine (rNew_ K 0 _).mono ?_;rintro e w3 ⟨s3,p3,l3,c3,q3,k3,d3,P3,M3,N3,T3,rfl,hP3,hM3,hN3,hT3,hR3,g3⟩;replace f0:=(kfro g3 (cell_lt e0)).trans f0;replace e0:=kkeep g3 e0;replace f1:=(kfro g3 (cell_lt e1)).trans f1;replace e1:=kkeep g3 e1;replace f2:=(kfro g3 (cell_lt e2)).trans f2;replace e2:=kkeep g3 e2;replace f3:=(kfro g3 (cell_lt e3)).trans f3;replace e3:=kkeep g3 e3;replace f4:=(kfro g3 (cell_lt e4)).trans f4;replace e4:=kkeep g3 e4;replace f5:=(kfro g3 (cell_lt e5)).trans f5;replace e5:=kkeep g3 e5;replace f6:=(kfro g3 (cell_lt e6)).trans f6;replace e6:=kkeep g3 e6))
            obtain ⟨hq2,hSt2,hl9⟩:=HP.out
            have hp3:=hq2.kp g3
            obtain ⟨hp4,kb4,ty4⟩:=hp3.doc hs4 (s * 7) rfl (.bool s3) (.slice p3 l3 c3) (.slice q3 k3 d3) (.bool false) (.bool false) (.bool false) (.int .u64 0)
            have hs6:=(hSt2.kp g3).kb kb4 (show b9≠bm + 1 by omega)
            subst hP3 hM3 hN3 hT3
            have hr4:=hR3.kb kb4 ty4
            have hf4:=Slt.fresh (i + 1) hs6 hr4
            have hp5:=hp4.close (by simpa using hf4)
            have m1:(((((((w3.setCell ⟨bm + 1,s * 7,none⟩ (.bool s3)).setCell ⟨bm + 1,s * 7 + 1,none⟩ (.slice p3 l3 c3)).setCell ⟨bm + 1,s * 7 + 2,none⟩ (.slice q3 k3 d3)).setCell ⟨bm + 1,s * 7 + 3,none⟩ (.bool false)).setCell ⟨bm + 1,s * 7 + 4,none⟩ (.bool false)).setCell ⟨bm + 1,s * 7 + 5,none⟩ (.bool false)).setCell ⟨bm + 1,s * 7 + 6,none⟩ (.int .u64 0)).cell? ⟨bm,s,none⟩ = some (.pointer (some ⟨b9,0,none⟩)):=by
              have:=(hp5.ptr s hs4).1
              simpa using this
            clear HP hq2 hSt2 hp3 hp4 kb4 ty4 hs6 hr4 hf4 hR3 e0 f0 e1 f1 e2 f2 e3 f3 e4 f4 e5 f5 e6 f6
            generalize (((((((w3.setCell ⟨bm + 1,s * 7,none⟩ (.bool s3)).setCell ⟨bm + 1,s * 7 + 1,none⟩ (.slice p3 l3 c3)).setCell ⟨bm + 1,s * 7 + 2,none⟩ (.slice q3 k3 d3)).setCell ⟨bm + 1,s * 7 + 3,none⟩ (.bool false)).setCell ⟨bm + 1,s * 7 + 4,none⟩ (.bool false)).setCell ⟨bm + 1,s * 7 + 5,none⟩ (.bool false)).setCell ⟨bm + 1,s * 7 + 6,none⟩ (.int .u64 0)) = W4 at *
            go_wp2
            exact ⟨⟨_,.int .i64 ((i:Int) + 1),_,_,_,_,_,_,_,_,_,_,_,_,_,_,_,_,_,_,_,_,_,_,_,_,_,_,_,_,_,_,_,_,_,_,_,_,_,_,_,_,_,_,_,_,_,_,_,_,_,_,_,_,_,_,_,_,_,_,_,_,_,_,_,_,_,_,_,_,_,_,_,_,_,_,_,_,_,_,_,_,_,_,_,_,_,_,_,_,_,_,_,_,_,_,_,_,_,_,_,_,_,_,_,_,_,_,_,_,_,_,_,_,_,_,_,_,_,_,_,_,_,_,_,_,_,_,_,_,_,_,_,_,_,_,_,_,_,_,_,_,_,_,_,_,_,_,_,_,_,_,_,_,_,_,_,_,_,_,_,_,_,_,_,_,_,_,_,_,_,_,_,_,_,_,_,_,_,_,_,_,_,_,_,_,_,_,_,_,_,_,_,_,_,_,_,_,_,_,_,_,_,_,_,⟨i + 1,_,_,by go_num,by omega,by omega,hp5⟩,rfl⟩,by simp [intOf];omega⟩
          have n0:(O == 0) = false:=by simpa using o0
          by_cases o11:O = 11
          · as_aux_lemma =>
              subst o11
              obtain ⟨hp,hsl⟩:=ho.opens s hs4
              obtain ⟨m0,z0⟩:=ho.ptr s hs4
              clear ho hsl hslS hslT h7 r0 r1 r2 r3 r4 r5 r6 r7 r8 r9 r10 r11 r12 r13
              have hl9:bm + 1 < W1.heap.size:=World.rowIs.lt hp.docs
              have hz:=zeroS
              have hSt:=St.zero W1
              have hs9:(wc (List.replicate 67 0) ++ #[Value.int .u64 0,Value.int .i64 0]).size = 69:=by rw [Array.size_append,wc_size,List.length_replicate];rfl
              generalize wc (List.replicate 67 0) ++ #[Value.int .u64 0,Value.int .i64 0] = Z at *
              have g2:Kp W1 (W1.alloc (.cells Z 41)):=(Kp.refl W1).alloc _
              replace z0:=(kfro g2 (cell_lt m0)).trans z0
              replace m0:=kkeep g2 m0
              have hb9:W1.heap.size < (W1.alloc (.cells Z 41)).heap.size:=by simp
              go_upto_region 25 with fail
              have hq2:=(hp.kp g2).point hs4 W1.heap.size hb9 hl9 (fun j hj _=>by have:=(hp.blk j hj).2;omega)
              have hSt2:=hSt.kb ((Kb.refl bm (W1.alloc (.cells Z 41))).setCell s (.pointer (some ⟨W1.heap.size,0,none⟩))) (by omega)
              clear hSt hb9 g2 m0 z0 hp hz hs9
              generalize (W1.alloc (.cells Z 41)).setCell ⟨bm,s,none⟩ (.pointer (some ⟨W1.heap.size,0,none⟩)) = W2 at *
              generalize W1.heap.size = b9 at *
              obtain ⟨e0,f0⟩:W2.cell? ⟨bm + 1,s * 7,none⟩ = some (D s 0)∧W2.frozen? ⟨bm + 1,s * 7,none⟩ = false:=hq2.cells s hs4 0 (by decide)
              obtain ⟨e1,f1⟩:=hq2.cells s hs4 1 (by decide)
              obtain ⟨e2,f2⟩:=hq2.cells s hs4 2 (by decide)
              obtain ⟨e3,f3⟩:=hq2.cells s hs4 3 (by decide)
              obtain ⟨e4,f4⟩:=hq2.cells s hs4 4 (by decide)
              obtain ⟨e5,f5⟩:=hq2.cells s hs4 5 (by decide)
              obtain ⟨e6,f6⟩:=hq2.cells s hs4 6 (by decide)
              have HP:Hid (Po w W2 bm (bm + 1) K i s (fun j=>if j = s then b9 else B j) D∧St W2 b9 0 0 0∧bm + 1 < b9):=⟨hq2,hSt2,hl9⟩
              clear hq2 hSt2 hl9
              go_upto_region 26 with (first | (go_at_call 5;refine (rNew_ K 0 _).mono ?_;rintro e w3 ⟨s3,p3,l3,c3,q3,k3,d3,P3,M3,N3,T3,rfl,hP3,hM3,hN3,hT3,hR3,g3⟩;replace f0:=(kfro g3 (cell_lt e0)).trans f0;replace e0:=kkeep g3 e0;replace f1:=(kfro g3 (cell_lt e1)).trans f1;replace e1:=kkeep g3 e1;replace f2:=(kfro g3 (cell_lt e2)).trans f2;replace e2:=kkeep g3 e2;replace f3:=(kfro g3 (cell_lt e3)).trans f3;replace e3:=kkeep g3 e3;replace f4:=(kfro g3 (cell_lt e4)).trans f4;replace e4:=kkeep g3 e4;replace f5:=(kfro g3 (cell_lt e5)).trans f5;replace e5:=kkeep g3 e5;replace f6:=(kfro g3 (cell_lt e6)).trans f6;replace e6:=kkeep g3 e6))
              obtain ⟨hq2,hSt2,hl9⟩:=HP.out
              have hp3:=hq2.kp g3
              obtain ⟨hp4,kb4,ty4⟩:=hp3.doc hs4 (s * 7) rfl (.bool s3) (.slice p3 l3 c3) (.slice q3 k3 d3) (.bool false) (.bool false) (.bool false) (.int .u64 0)
              have hs6:=(hSt2.kp g3).kb kb4 (show b9≠bm + 1 by omega)
              subst hP3 hM3 hN3 hT3
              have hr4:=hR3.kb kb4 ty4
              have hf4:=Slt.fresh (i + 1) hs6 hr4
              have hp5:=hp4.close (by simpa using hf4)
              have m1:(((((((w3.setCell ⟨bm + 1,s * 7,none⟩ (.bool s3)).setCell ⟨bm + 1,s * 7 + 1,none⟩ (.slice p3 l3 c3)).setCell ⟨bm + 1,s * 7 + 2,none⟩ (.slice q3 k3 d3)).setCell ⟨bm + 1,s * 7 + 3,none⟩ (.bool false)).setCell ⟨bm + 1,s * 7 + 4,none⟩ (.bool false)).setCell ⟨bm + 1,s * 7 + 5,none⟩ (.bool false)).setCell ⟨bm + 1,s * 7 + 6,none⟩ (.int .u64 0)).cell? ⟨bm,s,none⟩ = some (.pointer (some ⟨b9,0,none⟩)):=by
                have:=(hp5.ptr s hs4).1
                simpa using this
              clear HP hq2 hSt2 hp3 hp4 kb4 ty4 hs6 hr4 hf4 hR3 e0 f0 e1 f1 e2 f2 e3 f3 e4 f4 e5 f5 e6 f6
              generalize (((((((w3.setCell ⟨bm + 1,s * 7,none⟩ (.bool s3)).setCell ⟨bm + 1,s * 7 + 1,none⟩ (.slice p3 l3 c3)).setCell ⟨bm + 1,s * 7 + 2,none⟩ (.slice q3 k3 d3)).setCell ⟨bm + 1,s * 7 + 3,none⟩ (.bool false)).setCell ⟨bm + 1,s * 7 + 4,none⟩ (.bool false)).setCell ⟨bm + 1,s * 7 + 5,none⟩ (.bool false)).setCell ⟨bm + 1,s * 7 + 6,none⟩ (.int .u64 0)) = W4 at *
              go_wp2
              exact ⟨⟨_,.int .i64 ((i:Int) + 1),_,_,_,_,_,_,_,_,_,_,_,_,_,_,_,_,_,_,_,_,_,_,_,_,_,_,_,_,_,_,_,_,_,_,_,_,_,_,_,_,_,_,_,_,_,_,_,_,_,_,_,_,_,_,_,_,_,_,_,_,_,_,_,_,_,_,_,_,_,_,_,_,_,_,_,_,_,_,_,_,_,_,_,_,_,_,_,_,_,_,_,_,_,_,_,_,_,_,_,_,_,_,_,_,_,_,_,_,_,_,_,_,_,_,_,_,_,_,_,_,_,_,_,_,_,_,_,_,_,_,_,_,_,_,_,_,_,_,_,_,_,_,_,_,_,_,_,_,_,_,_,_,_,_,_,_,_,_,_,_,_,_,_,_,_,_,_,_,_,_,_,_,_,_,_,_,_,_,_,_,_,_,_,_,_,_,_,_,_,_,_,_,_,_,_,_,_,_,_,_,_,_,_,⟨i + 1,_,_,by go_num,by omega,by omega,hp5⟩,rfl⟩,by simp [intOf];omega⟩
          have n11:(O == 11) = false:=by simpa using o11
          by_cases o1:O = 1
          · as_aux_lemma =>
              subst o1
              obtain ⟨hp,hsl⟩:=ho.opens s hs4
              have m0:=(ho.ptr s hs4).1
              have nbs:=(ho.blk s hs4).1
              have nbm:bm≠B s:=by omega
              have nbp:bp≠B s:=by have:=hBp s hs4;omega
              have hfl:=fl4_ X
              have hfy:=fl4_ Y
              have hadd:=pAdd_ X x1 W1.drew (B s) (D s) K i hK (hsl.kp (Kp.drew (Kp.refl _)))
              have ty1:=hsl.ty
              clear ho hsl hslS hslT
              go_upto_region 27 with fail
              go_region_held3 (fun w'=>w'.cell? ⟨bm,s,none⟩ = some (.pointer (some ⟨B s,0,none⟩))∧w'.cell? ⟨bp,3,none⟩ = some (.int .u64 (X:Int))) (first | (with_reducible exact ⟨m0,r3⟩) | (exact ⟨kkeep (W:=W1) (Kp.drew (Kp.refl _)) m0,kkeep (W:=W1) (Kp.drew (Kp.refl _)) r3⟩) | (exact ⟨kb.arr (w:=W1.drew) nbm m0,kb.arr (w:=W1.drew) nbp r3⟩)) (first | (go_at_call_of 9 (Value.int .u64 (X:Int));refine (hfl _).mono ?_;rintro e w' ⟨rfl,hw'⟩;obtain rfl:=hw'.symm;clear hw') | (go_at_call 8;refine hadd.mono ?_;rintro e w2 ⟨⟨v2,rfl⟩,hPa,kb⟩))
              have hp2:Po w w2.drew bm (bm + 1) K i s B D:=((hp.kp (Kp.drew (Kp.refl _))).kb hs4 kb (ty1.kp (Kp.drew (Kp.refl _)))).kp (Kp.drew (Kp.refl _))
              have r3':w2.drew.cell? ⟨bp,3,none⟩ = some (.int .u64 (X:Int)):=kb.arr (w:=W1.drew) nbp r3
              have r4':w2.drew.cell? ⟨bp,4,none⟩ = some (.int .u64 (Y:Int)):=kb.arr (w:=W1.drew) nbp r4
              obtain ⟨e0,f0⟩:w2.drew.cell? ⟨bm + 1,s * 7,none⟩ = some (D s 0)∧w2.drew.frozen? ⟨bm + 1,s * 7,none⟩ = false:=hp2.cells s hs4 0 (by decide)
              obtain ⟨e1,f1⟩:=hp2.cells s hs4 1 (by decide)
              obtain ⟨e2,f2⟩:=hp2.cells s hs4 2 (by decide)
              obtain ⟨e3,f3⟩:=hp2.cells s hs4 3 (by decide)
              obtain ⟨e4,f4⟩:=hp2.cells s hs4 4 (by decide)
              obtain ⟨e5,f5⟩:=hp2.cells s hs4 5 (by decide)
              obtain ⟨e6,f6⟩:=hp2.cells s hs4 6 (by decide)
              have hra:=rAdd_ X x1 w2.drew (B s) (D s) K i hK (by omega) (hPa.kp (Kp.drew (Kp.refl _)))
              clear hp ty1 kb m0 r0 r1 r2 r3 r4 r5 r6 r7 r8 r9 r10 r11 r12 r13 hadd hfl hfy h7 hPa
              have hld:=load30 w2.drew (bm + 1) (s * 7) _ _ _ _ _ _ _ e0 e1 e2 e3 e4 e5 e6
              go_upto_region 28 with fail
              have gz:Kp w2.drew w2.drew:=Kp.refl _
              refine wp_region_held_drew (S:=(fun w':World=>w'.cell? ⟨bp,3,none⟩ = some (.int .u64 (X:Int)))) (by kernel_rfl) (kkeep gz r3') (fun _=>?_)
              refine wpAnyH_take (i:=0) (v:=.int .i64 (s:Int)) rfl (by kernel_rfl) (by kernel_rfl) (by kernel_rfl) (fun _ _ _ h=>h) (Or.inl ⟨by rfl,fun w _hS=>rfl⟩) (kkeep gz r3') ?_
              try simp only [Act.put,List.getElem_toArray,List.getElem_cons_zero,List.getElem_cons_succ,List.setIfInBounds_toArray,List.set_cons_zero,List.set_cons_succ]
              refine wpAnyH_take (i:=1) (v:=.int .i64 (s:Int)) rfl (by kernel_rfl) (by kernel_rfl) (by kernel_rfl) (fun _ _ _ h=>h) (Or.inl ⟨by rfl,fun w _hS=>rfl⟩) (kkeep gz r3') ?_
              try simp only [Act.put,List.getElem_toArray,List.getElem_cons_zero,List.getElem_cons_succ,List.setIfInBounds_toArray,List.set_cons_zero,List.set_cons_succ]
              refine wpAnyH_take (i:=2) (v:=.pointer (some ⟨bm + 1,s * 7,none⟩)) rfl (by kernel_rfl) (by kernel_rfl) (by kernel_rfl) (fun _ _ _ h=>h) (Or.inl ⟨by rfl,fun w _hS=>(by simp [go_sem,ts0,ts1])⟩) (kkeep gz r3') ?_
              try simp only [Act.put,List.getElem_toArray,List.getElem_cons_zero,List.getElem_cons_succ,List.setIfInBounds_toArray,List.set_cons_zero,List.set_cons_succ]
              refine wpAnyH_take (i:=4) (v:=.pointer (some ⟨bp,3,none⟩)) rfl (by kernel_rfl) (by kernel_rfl) (by kernel_rfl) (fun _ _ _ h=>h) (Or.inl ⟨by rfl,fun w _hS=>(by simp [go_sem])⟩) (kkeep gz r3') ?_
              try simp only [Act.put,List.getElem_toArray,List.getElem_cons_zero,List.getElem_cons_succ,List.setIfInBounds_toArray,List.set_cons_zero,List.set_cons_succ]
              refine wpAnyH_take (i:=5) (v:=.int .u64 (X:Int)) rfl (by kernel_rfl) (by kernel_rfl) (by kernel_rfl) (fun _ _ _ h=>h) (Or.inl ⟨by rfl,fun w _hS=>(by simp [go_sem,_hS])⟩) (kkeep gz r3') ?_
              try simp only [Act.put,List.getElem_toArray,List.getElem_cons_zero,List.getElem_cons_succ,List.setIfInBounds_toArray,List.set_cons_zero,List.set_cons_succ]
              refine wpAnyH_ready (rs:=[3]) (by kernel_rfl) (by simp) ?_
              refine AllReadyH.cons rfl (fun K hK=>?_) AllReadyH.nil
              rw [if_pos (by rfl)]
              refine wpo_load 30 _ rfl (bm + 1) (s * 7) rfl _ hld ?_
              refine hK.out _ _ (kkeep gz r3') (fun _=>?_)
              clear hK K
              try simp only [Act.put,List.getElem_toArray,List.getElem_cons_zero,List.getElem_cons_succ,List.setIfInBounds_toArray,List.set_cons_zero,List.set_cons_succ]
              refine wpAnyH_ready (rs:=[6]) (by kernel_rfl) (by simp) ?_
              refine AllReadyH.cons rfl (fun K hK=>?_) AllReadyH.nil
              go_simp
              refine hra.mono ?_
              rintro e w3 ⟨s3,p3,l3,c3,q3,k3,d3,P3,M3,N3,T3,rfl,hS3,g3⟩
              go_wp2_with fail
              refine hK.out _ _ (kkeep g3 r3') (fun _=>?_)
              clear hK K
              try simp only [Act.put,List.getElem_toArray,List.getElem_cons_zero,List.getElem_cons_succ,List.setIfInBounds_toArray,List.set_cons_zero,List.set_cons_succ]
              refine wpAnyH_take (i:=7) (v:=.pointer (some ⟨bm + 1,s * 7,none⟩)) rfl (by kernel_rfl) (by kernel_rfl) (by kernel_rfl) (fun _ _ _ h=>h) (Or.inl ⟨by rfl,fun w _hS=>(by simp [go_sem,ts0,ts1])⟩) (kkeep g3 r3') ?_
              try simp only [Act.put,List.getElem_toArray,List.getElem_cons_zero,List.getElem_cons_succ,List.setIfInBounds_toArray,List.set_cons_zero,List.set_cons_succ]
              replace f0:=(kfro g3 (cell_lt e0)).trans f0;replace e0:=kkeep g3 e0;replace f1:=(kfro g3 (cell_lt e1)).trans f1;replace e1:=kkeep g3 e1;replace f2:=(kfro g3 (cell_lt e2)).trans f2;replace e2:=kkeep g3 e2;replace f3:=(kfro g3 (cell_lt e3)).trans f3;replace e3:=kkeep g3 e3;replace f4:=(kfro g3 (cell_lt e4)).trans f4;replace e4:=kkeep g3 e4;replace f5:=(kfro g3 (cell_lt e5)).trans f5;replace e5:=kkeep g3 e5;replace f6:=(kfro g3 (cell_lt e6)).trans f6;replace e6:=kkeep g3 e6
              have hst:=store30 w3 (bm + 1) (s * 7) _ _ _ _ _ _ _ e0 e1 e2 e3 e4 e5 e6 f0 f1 f2 f3 f4 f5 f6 s3 p3 l3 c3 q3 k3 d3 P3 M3 N3 T3
              refine wpAnyH_ready (rs:=[8]) (by kernel_rfl) (by simp) ?_
              refine AllReadyH.cons rfl (fun K hK=>?_) AllReadyH.nil
              rw [if_pos (by rfl)]
              refine wpo_store 30 _ _ rfl (bm + 1) (s * 7) rfl _ rfl _ hst ?_
              refine hK.out _ _ ?zS (fun _=>?_)
              have kbz:Kb (bm + 1) w3 (((((((w3.setCell ⟨bm + 1,s * 7,none⟩ (.bool s3)).setCell ⟨bm + 1,s * 7 + 1,none⟩ (.slice p3 l3 c3)).setCell ⟨bm + 1,s * 7 + 2,none⟩ (.slice q3 k3 d3)).setCell ⟨bm + 1,s * 7 + 3,none⟩ (.bool P3)).setCell ⟨bm + 1,s * 7 + 4,none⟩ (.bool M3)).setCell ⟨bm + 1,s * 7 + 5,none⟩ (.bool N3)).setCell ⟨bm + 1,s * 7 + 6,none⟩ (.int .u64 (T3:Int))):=((((((((Kb.refl (bm + 1) w3).setCell (s * 7) _).setCell (s * 7 + 1) _).setCell (s * 7 + 2) _).setCell (s * 7 + 3) _).setCell (s * 7 + 4) _).setCell (s * 7 + 5) _).setCell (s * 7 + 6) _)
              case zS=>exact (kbz.arr (w:=w3) (by omega) (kkeep g3 r3'))
              clear hK K
              try simp only [Act.put,List.getElem_toArray,List.getElem_cons_zero,List.getElem_cons_succ,List.setIfInBounds_toArray,List.set_cons_zero,List.set_cons_succ]
              refine wpAnyH_done (by kernel_rfl) ?_ _
              have hp3:=hp2.kp g3
              obtain ⟨hp4,kb4,ty4⟩:=hp3.doc hs4 (s * 7) rfl (.bool s3) (.slice p3 l3 c3) (.slice q3 k3 d3) (.bool P3) (.bool M3) (.bool N3) (.int .u64 (T3:Int))
              have hs5:=hS3.kb kb4 ty4 (by have:=nbs;omega)
              have hp5:=hp4.close (by simpa using hs5)
              clear hp3 hp4 kb4 ty4 hs5
              generalize (((((((w3.setCell ⟨bm + 1,s * 7,none⟩ (.bool s3)).setCell ⟨bm + 1,s * 7 + 1,none⟩ (.slice p3 l3 c3)).setCell ⟨bm + 1,s * 7 + 2,none⟩ (.slice q3 k3 d3)).setCell ⟨bm + 1,s * 7 + 3,none⟩ (.bool P3)).setCell ⟨bm + 1,s * 7 + 4,none⟩ (.bool M3)).setCell ⟨bm + 1,s * 7 + 5,none⟩ (.bool N3)).setCell ⟨bm + 1,s * 7 + 6,none⟩ (.int .u64 (T3:Int))) = W4 at *
              go_wp2
              exact ⟨⟨_,.int .i64 ((i:Int) + 1),_,_,_,_,_,_,_,_,_,_,_,_,_,_,_,_,_,_,_,_,_,_,_,_,_,_,_,_,_,_,_,_,_,_,_,_,_,_,_,_,_,_,_,_,_,_,_,_,_,_,_,_,_,_,_,_,_,_,_,_,_,_,_,_,_,_,_,_,_,_,_,_,_,_,_,_,_,_,_,_,_,_,_,_,_,_,_,_,_,_,_,_,_,_,_,_,_,_,_,_,_,_,_,_,_,_,_,_,_,_,_,_,_,_,_,_,_,_,_,_,_,_,_,_,_,_,_,_,_,_,_,_,_,_,_,_,_,_,_,_,_,_,_,_,_,_,_,_,_,_,_,_,_,_,_,_,_,_,_,_,_,_,_,_,_,_,_,_,_,_,_,_,_,_,_,_,_,_,_,_,_,_,_,_,_,_,_,_,_,_,_,_,_,_,_,_,_,_,_,_,_,_,_,⟨i + 1,_,_,by go_num,by omega,by omega,hp5⟩,rfl⟩,by simp [intOf];omega⟩
          have n1:(O == 1) = false:=by simpa using o1
          by_cases o2:O = 2
          · as_aux_lemma =>
              subst o2
              obtain ⟨hp,hsl⟩:=ho.opens s hs4
              have m0:=(ho.ptr s hs4).1
              have nbs:=(ho.blk s hs4).1
              have nbm:bm≠B s:=by omega
              have nbp:bp≠B s:=by have:=hBp s hs4;omega
              have hfl:=fl4_ X
              have hfy:=fl4_ Y
              have hadd:=pMul_ X Y x1 x2 W1.drew (B s) (D s) K i (hsl.kp (Kp.drew (Kp.refl _)))
              have ty1:=hsl.ty
              clear ho hsl hslS hslT
              go_upto_region 30 with fail
              go_region_held3 (fun w'=>w'.cell? ⟨bm,s,none⟩ = some (.pointer (some ⟨B s,0,none⟩))∧w'.cell? ⟨bp,3,none⟩ = some (.int .u64 (X:Int))∧w'.cell? ⟨bp,4,none⟩ = some (.int .u64 (Y:Int))) (first | (with_reducible exact ⟨m0,r3,r4⟩) | (exact ⟨kkeep (W:=W1) (Kp.drew (Kp.refl _)) m0,kkeep (W:=W1) (Kp.drew (Kp.refl _)) r3,kkeep (W:=W1) (Kp.drew (Kp.refl _)) r4⟩) | (exact ⟨kb.arr (w:=W1.drew) nbm m0,kb.arr (w:=W1.drew) nbp r3,kb.arr (w:=W1.drew) nbp r4⟩)) (first | (go_at_call_of 9 (Value.int .u64 (X:Int));refine (hfl _).mono ?_;rintro e w' ⟨rfl,hw'⟩;obtain rfl:=hw'.symm;clear hw') | (go_at_call_of 9 (Value.int .u64 (Y:Int));refine (hfy _).mono ?_;rintro e w' ⟨rfl,hw'⟩;obtain rfl:=hw'.symm;clear hw') | (go_at_call 11;refine hadd.mono ?_;rintro e w2 ⟨⟨v2,rfl⟩,hPa,kb⟩))
              have hp2:Po w w2.drew bm (bm + 1) K i s B D:=((hp.kp (Kp.drew (Kp.refl _))).kb hs4 kb (ty1.kp (Kp.drew (Kp.refl _)))).kp (Kp.drew (Kp.refl _))
              have r3':w2.drew.cell? ⟨bp,3,none⟩ = some (.int .u64 (X:Int)):=kb.arr (w:=W1.drew) nbp r3
              have r4':w2.drew.cell? ⟨bp,4,none⟩ = some (.int .u64 (Y:Int)):=kb.arr (w:=W1.drew) nbp r4
              obtain ⟨e0,f0⟩:w2.drew.cell? ⟨bm + 1,s * 7,none⟩ = some (D s 0)∧w2.drew.frozen? ⟨bm + 1,s * 7,none⟩ = false:=hp2.cells s hs4 0 (by decide)
              obtain ⟨e1,f1⟩:=hp2.cells s hs4 1 (by decide)
              obtain ⟨e2,f2⟩:=hp2.cells s hs4 2 (by decide)
              obtain ⟨e3,f3⟩:=hp2.cells s hs4 3 (by decide)
              obtain ⟨e4,f4⟩:=hp2.cells s hs4 4 (by decide)
              obtain ⟨e5,f5⟩:=hp2.cells s hs4 5 (by decide)
              obtain ⟨e6,f6⟩:=hp2.cells s hs4 6 (by decide)
              have hra:=rMul_ X Y x1 x2 w2.drew (B s) (D s) K i hK (by omega) (hPa.kp (Kp.drew (Kp.refl _)))
              clear hp ty1 kb m0 r0 r1 r2 r3 r4 r5 r6 r7 r8 r9 r10 r11 r12 r13 hadd hfl hfy h7 hPa
              have hld:=load30 w2.drew (bm + 1) (s * 7) _ _ _ _ _ _ _ e0 e1 e2 e3 e4 e5 e6
              go_upto_region 31 with fail
              have gz:Kp w2.drew w2.drew:=Kp.refl _
              refine wp_region_held_drew (S:=(fun w':World=>w'.cell? ⟨bp,3,none⟩ = some (.int .u64 (X:Int))∧w'.cell? ⟨bp,4,none⟩ = some (.int .u64 (Y:Int)))) (by kernel_rfl) ⟨kkeep gz r3',kkeep gz r4'⟩ (fun _=>?_)
              refine wpAnyH_take (i:=0) (v:=.int .i64 (s:Int)) rfl (by kernel_rfl) (by kernel_rfl) (by kernel_rfl) (fun _ _ _ h=>h) (Or.inl ⟨by rfl,fun w _hS=>rfl⟩) ⟨kkeep gz r3',kkeep gz r4'⟩ ?_
              try simp only [Act.put,List.getElem_toArray,List.getElem_cons_zero,List.getElem_cons_succ,List.setIfInBounds_toArray,List.set_cons_zero,List.set_cons_succ]
              refine wpAnyH_take (i:=1) (v:=.int .i64 (s:Int)) rfl (by kernel_rfl) (by kernel_rfl) (by kernel_rfl) (fun _ _ _ h=>h) (Or.inl ⟨by rfl,fun w _hS=>rfl⟩) ⟨kkeep gz r3',kkeep gz r4'⟩ ?_
              try simp only [Act.put,List.getElem_toArray,List.getElem_cons_zero,List.getElem_cons_succ,List.setIfInBounds_toArray,List.set_cons_zero,List.set_cons_succ]
              refine wpAnyH_take (i:=2) (v:=.pointer (some ⟨bm + 1,s * 7,none⟩)) rfl (by kernel_rfl) (by kernel_rfl) (by kernel_rfl) (fun _ _ _ h=>h) (Or.inl ⟨by rfl,fun w _hS=>(by simp [go_sem,ts0,ts1])⟩) ⟨kkeep gz r3',kkeep gz r4'⟩ ?_
              try simp only [Act.put,List.getElem_toArray,List.getElem_cons_zero,List.getElem_cons_succ,List.setIfInBounds_toArray,List.set_cons_zero,List.set_cons_succ]
              refine wpAnyH_take (i:=4) (v:=.pointer (some ⟨bp,3,none⟩)) rfl (by kernel_rfl) (by kernel_rfl) (by kernel_rfl) (fun _ _ _ h=>h) (Or.inl ⟨by rfl,fun w _hS=>(by simp [go_sem])⟩) ⟨kkeep gz r3',kkeep gz r4'⟩ ?_
              try simp only [Act.put,List.getElem_toArray,List.getElem_cons_zero,List.getElem_cons_succ,List.setIfInBounds_toArray,List.set_cons_zero,List.set_cons_succ]
              refine wpAnyH_take (i:=5) (v:=.int .u64 (X:Int)) rfl (by kernel_rfl) (by kernel_rfl) (by kernel_rfl) (fun _ _ _ h=>h) (Or.inl ⟨by rfl,fun w _hS=>(by simp [go_sem,_hS.1])⟩) ⟨kkeep gz r3',kkeep gz r4'⟩ ?_
              try simp only [Act.put,List.getElem_toArray,List.getElem_cons_zero,List.getElem_cons_succ,List.setIfInBounds_toArray,List.set_cons_zero,List.set_cons_succ]
              refine wpAnyH_take (i:=6) (v:=.pointer (some ⟨bp,4,none⟩)) rfl (by kernel_rfl) (by kernel_rfl) (by kernel_rfl) (fun _ _ _ h=>h) (Or.inl ⟨by rfl,fun w _hS=>(by simp [go_sem])⟩) ⟨kkeep gz r3',kkeep gz r4'⟩ ?_
              try simp only [Act.put,List.getElem_toArray,List.getElem_cons_zero,List.getElem_cons_succ,List.setIfInBounds_toArray,List.set_cons_zero,List.set_cons_succ]
              refine wpAnyH_take (i:=7) (v:=.int .u64 (Y:Int)) rfl (by kernel_rfl) (by kernel_rfl) (by kernel_rfl) (fun _ _ _ h=>h) (Or.inl ⟨by rfl,fun w _hS=>(by simp [go_sem,_hS.2])⟩) ⟨kkeep gz r3',kkeep gz r4'⟩ ?_
              try simp only [Act.put,List.getElem_toArray,List.getElem_cons_zero,List.getElem_cons_succ,List.setIfInBounds_toArray,List.set_cons_zero,List.set_cons_succ]
              refine wpAnyH_ready (rs:=[3]) (by kernel_rfl) (by simp) ?_
              refine AllReadyH.cons rfl (fun K hK=>?_) AllReadyH.nil
              rw [if_pos (by rfl)]
              refine wpo_load 30 _ rfl (bm + 1) (s * 7) rfl _ hld ?_
              refine hK.out _ _ ⟨kkeep gz r3',kkeep gz r4'⟩ (fun _=>?_)
              clear hK K
              try simp only [Act.put,List.getElem_toArray,List.getElem_cons_zero,List.getElem_cons_succ,List.setIfInBounds_toArray,List.set_cons_zero,List.set_cons_succ]
              refine wpAnyH_ready (rs:=[8]) (by kernel_rfl) (by simp) ?_
              refine AllReadyH.cons rfl (fun K hK=>?_) AllReadyH.nil
              go_simp
              refine hra.mono ?_
              rintro e w3 ⟨s3,p3,l3,c3,q3,k3,d3,P3,M3,N3,T3,rfl,hS3,g3⟩
              go_wp2_with fail
              refine hK.out _ _ ⟨kkeep g3 r3',kkeep g3 r4'⟩ (fun _=>?_)
              clear hK K
              try simp only [Act.put,List.getElem_toArray,List.getElem_cons_zero,List.getElem_cons_succ,List.setIfInBounds_toArray,List.set_cons_zero,List.set_cons_succ]
              refine wpAnyH_take (i:=9) (v:=.pointer (some ⟨bm + 1,s * 7,none⟩)) rfl (by kernel_rfl) (by kernel_rfl) (by kernel_rfl) (fun _ _ _ h=>h) (Or.inl ⟨by rfl,fun w _hS=>(by simp [go_sem,ts0,ts1])⟩) ⟨kkeep g3 r3',kkeep g3 r4'⟩ ?_
              try simp only [Act.put,List.getElem_toArray,List.getElem_cons_zero,List.getElem_cons_succ,List.setIfInBounds_toArray,List.set_cons_zero,List.set_cons_succ]
              replace f0:=(kfro g3 (cell_lt e0)).trans f0;replace e0:=kkeep g3 e0;replace f1:=(kfro g3 (cell_lt e1)).trans f1;replace e1:=kkeep g3 e1;replace f2:=(kfro g3 (cell_lt e2)).trans f2;replace e2:=kkeep g3 e2;replace f3:=(kfro g3 (cell_lt e3)).trans f3;replace e3:=kkeep g3 e3;replace f4:=(kfro g3 (cell_lt e4)).trans f4;replace e4:=kkeep g3 e4;replace f5:=(kfro g3 (cell_lt e5)).trans f5;replace e5:=kkeep g3 e5;replace f6:=(kfro g3 (cell_lt e6)).trans f6;replace e6:=kkeep g3 e6
              have hst:=store30 w3 (bm + 1) (s * 7) _ _ _ _ _ _ _ e0 e1 e2 e3 e4 e5 e6 f0 f1 f2 f3 f4 f5 f6 s3 p3 l3 c3 q3 k3 d3 P3 M3 N3 T3
              refine wpAnyH_ready (rs:=[10]) (by kernel_rfl) (by simp) ?_
              refine AllReadyH.cons rfl (fun K hK=>?_) AllReadyH.nil
              rw [if_pos (by rfl)]
              refine wpo_store 30 _ _ rfl (bm + 1) (s * 7) rfl _ rfl _ hst ?_
              refine hK.out _ _ ?zS (fun _=>?_)
              have kbz:Kb (bm + 1) w3 (((((((w3.setCell ⟨bm + 1,s * 7,none⟩ (.bool s3)).setCell ⟨bm + 1,s * 7 + 1,none⟩ (.slice p3 l3 c3)).setCell ⟨bm + 1,s * 7 + 2,none⟩ (.slice q3 k3 d3)).setCell ⟨bm + 1,s * 7 + 3,none⟩ (.bool P3)).setCell ⟨bm + 1,s * 7 + 4,none⟩ (.bool M3)).setCell ⟨bm + 1,s * 7 + 5,none⟩ (.bool N3)).setCell ⟨bm + 1,s * 7 + 6,none⟩ (.int .u64 (T3:Int))):=((((((((Kb.refl (bm + 1) w3).setCell (s * 7) _).setCell (s * 7 + 1) _).setCell (s * 7 + 2) _).setCell (s * 7 + 3) _).setCell (s * 7 + 4) _).setCell (s * 7 + 5) _).setCell (s * 7 + 6) _)
              case zS=>exact ⟨kbz.arr (w:=w3) (by omega) (kkeep g3 r3'),kbz.arr (w:=w3) (by omega) (kkeep g3 r4')⟩
              clear hK K
              try simp only [Act.put,List.getElem_toArray,List.getElem_cons_zero,List.getElem_cons_succ,List.setIfInBounds_toArray,List.set_cons_zero,List.set_cons_succ]
              refine wpAnyH_done (by kernel_rfl) ?_ _
              have hp3:=hp2.kp g3
              obtain ⟨hp4,kb4,ty4⟩:=hp3.doc hs4 (s * 7) rfl (.bool s3) (.slice p3 l3 c3) (.slice q3 k3 d3) (.bool P3) (.bool M3) (.bool N3) (.int .u64 (T3:Int))
              have hs5:=hS3.kb kb4 ty4 (by have:=nbs;omega)
              have hp5:=hp4.close (by simpa using hs5)
              clear hp3 hp4 kb4 ty4 hs5
              generalize (((((((w3.setCell ⟨bm + 1,s * 7,none⟩ (.bool s3)).setCell ⟨bm + 1,s * 7 + 1,none⟩ (.slice p3 l3 c3)).setCell ⟨bm + 1,s * 7 + 2,none⟩ (.slice q3 k3 d3)).setCell ⟨bm + 1,s * 7 + 3,none⟩ (.bool P3)).setCell ⟨bm + 1,s * 7 + 4,none⟩ (.bool M3)).setCell ⟨bm + 1,s * 7 + 5,none⟩ (.bool N3)).setCell ⟨bm + 1,s * 7 + 6,none⟩ (.int .u64 (T3:Int))) = W4 at *
              go_wp2
              exact ⟨⟨_,.int .i64 ((i:Int) + 1),_,_,_,_,_,_,_,_,_,_,_,_,_,_,_,_,_,_,_,_,_,_,_,_,_,_,_,_,_,_,_,_,_,_,_,_,_,_,_,_,_,_,_,_,_,_,_,_,_,_,_,_,_,_,_,_,_,_,_,_,_,_,_,_,_,_,_,_,_,_,_,_,_,_,_,_,_,_,_,_,_,_,_,_,_,_,_,_,_,_,_,_,_,_,_,_,_,_,_,_,_,_,_,_,_,_,_,_,_,_,_,_,_,_,_,_,_,_,_,_,_,_,_,_,_,_,_,_,_,_,_,_,_,_,_,_,_,_,_,_,_,_,_,_,_,_,_,_,_,_,_,_,_,_,_,_,_,_,_,_,_,_,_,_,_,_,_,_,_,_,_,_,_,_,_,_,_,_,_,_,_,_,_,_,_,_,_,_,_,_,_,_,_,_,_,_,_,_,_,_,_,_,_,⟨i + 1,_,_,by go_num,by omega,by omega,hp5⟩,rfl⟩,by simp [intOf];omega⟩
          have n2:(O == 2) = false:=by simpa using o2
          by_cases o3:O = 3
          · as_aux_lemma =>
              subst o3
              obtain ⟨hp,hsl⟩:=ho.opens s hs4
              have hst2:=(ho.opens t ht4).2
              have m0:=(ho.ptr s hs4).1
              have m1:=(ho.ptr t ht4).1
              have nbs:=(ho.blk s hs4).1
              have nbm:bm≠B s:=by omega
              have hmg:=pMerge_ W1.drew (B s) (B t) (D s) (D t) K i (hsl.kp (Kp.drew (Kp.refl _))) (hst2.kp (Kp.drew (Kp.refl _)))
              have ty1:=hsl.ty
              clear ho hsl hst2 hslS hslT
              go_upto_region 33 with fail
              go_region_held3 (fun w'=>w'.cell? ⟨bm,s,none⟩ = some (.pointer (some ⟨B s,0,none⟩))∧w'.cell? ⟨bm,t,none⟩ = some (.pointer (some ⟨B t,0,none⟩))) (first | (with_reducible exact ⟨m0,m1⟩) | (exact ⟨kkeep (W:=W1) (Kp.drew (Kp.refl _)) m0,kkeep (W:=W1) (Kp.drew (Kp.refl _)) m1⟩) | (exact ⟨kb.arr (w:=W1.drew) nbm m0,kb.arr (w:=W1.drew) nbm m1⟩)) (first | (go_at_call 13;refine hmg.mono ?_;rintro e w2 ⟨⟨v2,rfl⟩,hPg,kb⟩))
              have hp2:Po w w2.drew bm (bm + 1) K i s B D:=((hp.kp (Kp.drew (Kp.refl _))).kb hs4 kb (ty1.kp (Kp.drew (Kp.refl _)))).kp (Kp.drew (Kp.refl _))
              obtain ⟨e0,f0⟩:w2.drew.cell? ⟨bm + 1,s * 7,none⟩ = some (D s 0)∧w2.drew.frozen? ⟨bm + 1,s * 7,none⟩ = false:=hp2.cells s hs4 0 (by decide)
              obtain ⟨e1,f1⟩:=hp2.cells s hs4 1 (by decide)
              obtain ⟨e2,f2⟩:=hp2.cells s hs4 2 (by decide)
              obtain ⟨e3,f3⟩:=hp2.cells s hs4 3 (by decide)
              obtain ⟨e4,f4⟩:=hp2.cells s hs4 4 (by decide)
              obtain ⟨e5,f5⟩:=hp2.cells s hs4 5 (by decide)
              obtain ⟨e6,f6⟩:=hp2.cells s hs4 6 (by decide)
              obtain ⟨y0,z0⟩:w2.drew.cell? ⟨bm + 1,t * 7,none⟩ = some (D t 0)∧w2.drew.frozen? ⟨bm + 1,t * 7,none⟩ = false:=hp2.cells t ht4 0 (by decide)
              obtain ⟨y1,z1⟩:=hp2.cells t ht4 1 (by decide)
              obtain ⟨y2,z2⟩:=hp2.cells t ht4 2 (by decide)
              obtain ⟨y3,z3⟩:=hp2.cells t ht4 3 (by decide)
              obtain ⟨y4,z4⟩:=hp2.cells t ht4 4 (by decide)
              obtain ⟨y5,z5⟩:=hp2.cells t ht4 5 (by decide)
              obtain ⟨y6,z6⟩:=hp2.cells t ht4 6 (by decide)
              have hra:=rMerge_ w2.drew (B s) (D s) (D t) K i hK (by omega) (hPg.kp (Kp.drew (Kp.refl _)))
              have hld:=load30 w2.drew (bm + 1) (s * 7) _ _ _ _ _ _ _ e0 e1 e2 e3 e4 e5 e6
              have hlt:=load30 w2.drew (bm + 1) (t * 7) _ _ _ _ _ _ _ y0 y1 y2 y3 y4 y5 y6
              clear hp ty1 kb m0 m1 r0 r1 r2 r3 r4 r5 r6 r7 r8 r9 r10 r11 r12 r13 hmg h7 hPg y0 z0 y1 z1 y2 z2 y3 z3 y4 z4 y5 z5 y6 z6
              go_upto_region 34 with fail
              refine wp_region_held_drew (S:=fun _=>True) (by kernel_rfl) trivial (fun _=>?_)
              refine wpAnyH_take (i:=0) (v:=.int .i64 (s:Int)) rfl (by kernel_rfl) (by kernel_rfl) (by kernel_rfl) (fun _ _ _ h=>h) (Or.inl ⟨by rfl,fun w _hS=>rfl⟩) trivial ?_
              try simp only [Act.put,List.getElem_toArray,List.getElem_cons_zero,List.getElem_cons_succ,List.setIfInBounds_toArray,List.set_cons_zero,List.set_cons_succ]
              refine wpAnyH_take (i:=1) (v:=.int .i64 (s:Int)) rfl (by kernel_rfl) (by kernel_rfl) (by kernel_rfl) (fun _ _ _ h=>h) (Or.inl ⟨by rfl,fun w _hS=>rfl⟩) trivial ?_
              try simp only [Act.put,List.getElem_toArray,List.getElem_cons_zero,List.getElem_cons_succ,List.setIfInBounds_toArray,List.set_cons_zero,List.set_cons_succ]
              refine wpAnyH_take (i:=2) (v:=.pointer (some ⟨bm + 1,s * 7,none⟩)) rfl (by kernel_rfl) (by kernel_rfl) (by kernel_rfl) (fun _ _ _ h=>h) (Or.inl ⟨by rfl,fun w _hS=>(by simp [go_sem,ts0,ts1])⟩) trivial ?_
              try simp only [Act.put,List.getElem_toArray,List.getElem_cons_zero,List.getElem_cons_succ,List.setIfInBounds_toArray,List.set_cons_zero,List.set_cons_succ]
              refine wpAnyH_take (i:=4) (v:=.int .i64 (t:Int)) rfl (by kernel_rfl) (by kernel_rfl) (by kernel_rfl) (fun _ _ _ h=>h) (Or.inl ⟨by rfl,fun w _hS=>rfl⟩) trivial ?_
              try simp only [Act.put,List.getElem_toArray,List.getElem_cons_zero,List.getElem_cons_succ,List.setIfInBounds_toArray,List.set_cons_zero,List.set_cons_succ]
              refine wpAnyH_take (i:=5) (v:=.pointer (some ⟨bm + 1,t * 7,none⟩)) rfl (by kernel_rfl) (by kernel_rfl) (by kernel_rfl) (fun _ _ _ h=>h) (Or.inl ⟨by rfl,fun w _hS=>(by simp [go_sem,tt0,tt1])⟩) trivial ?_
              try simp only [Act.put,List.getElem_toArray,List.getElem_cons_zero,List.getElem_cons_succ,List.setIfInBounds_toArray,List.set_cons_zero,List.set_cons_succ]
              refine wpAnyH_ready (rs:=[3,6]) (by kernel_rfl) (by simp) ?_
              refine AllReadyH.cons rfl (fun K hK=>?_) (AllReadyH.cons rfl (fun K hK=>?_) AllReadyH.nil)
              · rw [if_pos (by rfl)]
                refine wpo_load 30 _ rfl (bm + 1) (s * 7) rfl _ hld ?_
                refine hK.out _ _ trivial (fun _=>?_)
                clear hK K
                try simp only [Act.put,List.getElem_toArray,List.getElem_cons_zero,List.getElem_cons_succ,List.setIfInBounds_toArray,List.set_cons_zero,List.set_cons_succ]
                refine wpAnyH_ready (rs:=[6]) (by kernel_rfl) (by simp) ?_
                refine AllReadyH.cons rfl (fun K hK=>?_) AllReadyH.nil
                rw [if_pos (by rfl)]
                refine wpo_load 30 _ rfl (bm + 1) (t * 7) rfl _ hlt ?_
                refine hK.out _ _ trivial (fun _=>?_)
                clear hK K
                try simp only [Act.put,List.getElem_toArray,List.getElem_cons_zero,List.getElem_cons_succ,List.setIfInBounds_toArray,List.set_cons_zero,List.set_cons_succ]
                refine wpAnyH_ready (rs:=[7]) (by kernel_rfl) (by simp) ?_
                refine AllReadyH.cons rfl (fun K hK=>?_) AllReadyH.nil
                go_simp
                refine hra.mono ?_
                rintro e w3 ⟨s3,p3,l3,c3,q3,k3,d3,P3,M3,N3,T3,rfl,hS3,g3⟩
                go_wp2_with fail
                refine hK.out _ _ trivial (fun _=>?_)
                clear hK K
                try simp only [Act.put,List.getElem_toArray,List.getElem_cons_zero,List.getElem_cons_succ,List.setIfInBounds_toArray,List.set_cons_zero,List.set_cons_succ]
                refine wpAnyH_take (i:=8) (v:=.pointer (some ⟨bm + 1,s * 7,none⟩)) rfl (by kernel_rfl) (by kernel_rfl) (by kernel_rfl) (fun _ _ _ h=>h) (Or.inl ⟨by rfl,fun w _hS=>(by simp [go_sem,ts0,ts1])⟩) trivial ?_
                try simp only [Act.put,List.getElem_toArray,List.getElem_cons_zero,List.getElem_cons_succ,List.setIfInBounds_toArray,List.set_cons_zero,List.set_cons_succ]
                replace f0:=(kfro g3 (cell_lt e0)).trans f0;replace e0:=kkeep g3 e0;replace f1:=(kfro g3 (cell_lt e1)).trans f1;replace e1:=kkeep g3 e1;replace f2:=(kfro g3 (cell_lt e2)).trans f2;replace e2:=kkeep g3 e2;replace f3:=(kfro g3 (cell_lt e3)).trans f3;replace e3:=kkeep g3 e3;replace f4:=(kfro g3 (cell_lt e4)).trans f4;replace e4:=kkeep g3 e4;replace f5:=(kfro g3 (cell_lt e5)).trans f5;replace e5:=kkeep g3 e5;replace f6:=(kfro g3 (cell_lt e6)).trans f6;replace e6:=kkeep g3 e6
                have hst:=store30 w3 (bm + 1) (s * 7) _ _ _ _ _ _ _ e0 e1 e2 e3 e4 e5 e6 f0 f1 f2 f3 f4 f5 f6 s3 p3 l3 c3 q3 k3 d3 P3 M3 N3 T3
                refine wpAnyH_ready (rs:=[9]) (by kernel_rfl) (by simp) ?_
                refine AllReadyH.cons rfl (fun K hK=>?_) AllReadyH.nil
                rw [if_pos (by rfl)]
                refine wpo_store 30 _ _ rfl (bm + 1) (s * 7) rfl _ rfl _ hst ?_
                refine hK.out _ _ trivial (fun _=>?_)
                clear hK K
                try simp only [Act.put,List.getElem_toArray,List.getElem_cons_zero,List.getElem_cons_succ,List.setIfInBounds_toArray,List.set_cons_zero,List.set_cons_succ]
                refine wpAnyH_done (by kernel_rfl) ?_ _
                have hp3:=hp2.kp g3
                obtain ⟨hp4,kb4,ty4⟩:=hp3.doc hs4 (s * 7) rfl (.bool s3) (.slice p3 l3 c3) (.slice q3 k3 d3) (.bool P3) (.bool M3) (.bool N3) (.int .u64 (T3:Int))
                have hs5:=hS3.kb kb4 ty4 (by have:=nbs;omega)
                have hp5:=hp4.close (by simpa using hs5)
                clear hp3 hp4 kb4 ty4 hs5
                generalize (((((((w3.setCell ⟨bm + 1,s * 7,none⟩ (.bool s3)).setCell ⟨bm + 1,s * 7 + 1,none⟩ (.slice p3 l3 c3)).setCell ⟨bm + 1,s * 7 + 2,none⟩ (.slice q3 k3 d3)).setCell ⟨bm + 1,s * 7 + 3,none⟩ (.bool P3)).setCell ⟨bm + 1,s * 7 + 4,none⟩ (.bool M3)).setCell ⟨bm + 1,s * 7 + 5,none⟩ (.bool N3)).setCell ⟨bm + 1,s * 7 + 6,none⟩ (.int .u64 (T3:Int))) = W4 at *
                go_wp2
                exact ⟨⟨_,.int .i64 ((i:Int) + 1),_,_,_,_,_,_,_,_,_,_,_,_,_,_,_,_,_,_,_,_,_,_,_,_,_,_,_,_,_,_,_,_,_,_,_,_,_,_,_,_,_,_,_,_,_,_,_,_,_,_,_,_,_,_,_,_,_,_,_,_,_,_,_,_,_,_,_,_,_,_,_,_,_,_,_,_,_,_,_,_,_,_,_,_,_,_,_,_,_,_,_,_,_,_,_,_,_,_,_,_,_,_,_,_,_,_,_,_,_,_,_,_,_,_,_,_,_,_,_,_,_,_,_,_,_,_,_,_,_,_,_,_,_,_,_,_,_,_,_,_,_,_,_,_,_,_,_,_,_,_,_,_,_,_,_,_,_,_,_,_,_,_,_,_,_,_,_,_,_,_,_,_,_,_,_,_,_,_,_,_,_,_,_,_,_,_,_,_,_,_,_,_,_,_,_,_,_,_,_,_,_,_,_,⟨i + 1,_,_,by go_num,by omega,by omega,hp5⟩,rfl⟩,by simp [intOf];omega⟩
              · rw [if_pos (by rfl)]
                refine wpo_load 30 _ rfl (bm + 1) (t * 7) rfl _ hlt ?_
                refine hK.out _ _ trivial (fun _=>?_)
                clear hK K
                try simp only [Act.put,List.getElem_toArray,List.getElem_cons_zero,List.getElem_cons_succ,List.setIfInBounds_toArray,List.set_cons_zero,List.set_cons_succ]
                refine wpAnyH_ready (rs:=[3]) (by kernel_rfl) (by simp) ?_
                refine AllReadyH.cons rfl (fun K hK=>?_) AllReadyH.nil
                rw [if_pos (by rfl)]
                refine wpo_load 30 _ rfl (bm + 1) (s * 7) rfl _ hld ?_
                refine hK.out _ _ trivial (fun _=>?_)
                clear hK K
                try simp only [Act.put,List.getElem_toArray,List.getElem_cons_zero,List.getElem_cons_succ,List.setIfInBounds_toArray,List.set_cons_zero,List.set_cons_succ]
                refine wpAnyH_ready (rs:=[7]) (by kernel_rfl) (by simp) ?_
                refine AllReadyH.cons rfl (fun K hK=>?_) AllReadyH.nil
                go_simp
                refine hra.mono ?_
                rintro e w3 ⟨s3,p3,l3,c3,q3,k3,d3,P3,M3,N3,T3,rfl,hS3,g3⟩
                go_wp2_with fail
                refine hK.out _ _ trivial (fun _=>?_)
                clear hK K
                try simp only [Act.put,List.getElem_toArray,List.getElem_cons_zero,List.getElem_cons_succ,List.setIfInBounds_toArray,List.set_cons_zero,List.set_cons_succ]
                refine wpAnyH_take (i:=8) (v:=.pointer (some ⟨bm + 1,s * 7,none⟩)) rfl (by kernel_rfl) (by kernel_rfl) (by kernel_rfl) (fun _ _ _ h=>h) (Or.inl ⟨by rfl,fun w _hS=>(by simp [go_sem,ts0,ts1])⟩) trivial ?_
                try simp only [Act.put,List.getElem_toArray,List.getElem_cons_zero,List.getElem_cons_succ,List.setIfInBounds_toArray,List.set_cons_zero,List.set_cons_succ]
                replace f0:=(kfro g3 (cell_lt e0)).trans f0;replace e0:=kkeep g3 e0;replace f1:=(kfro g3 (cell_lt e1)).trans f1;replace e1:=kkeep g3 e1;replace f2:=(kfro g3 (cell_lt e2)).trans f2;replace e2:=kkeep g3 e2;replace f3:=(kfro g3 (cell_lt e3)).trans f3;replace e3:=kkeep g3 e3;replace f4:=(kfro g3 (cell_lt e4)).trans f4;replace e4:=kkeep g3 e4;replace f5:=(kfro g3 (cell_lt e5)).trans f5;replace e5:=kkeep g3 e5;replace f6:=(kfro g3 (cell_lt e6)).trans f6;replace e6:=kkeep g3 e6
                have hst:=store30 w3 (bm + 1) (s * 7) _ _ _ _ _ _ _ e0 e1 e2 e3 e4 e5 e6 f0 f1 f2 f3 f4 f5 f6 s3 p3 l3 c3 q3 k3 d3 P3 M3 N3 T3
                refine wpAnyH_ready (rs:=[9]) (by kernel_rfl) (by simp) ?_
                refine AllReadyH.cons rfl (fun K hK=>?_) AllReadyH.nil
                rw [if_pos (by rfl)]
                refine wpo_store 30 _ _ rfl (bm + 1) (s * 7) rfl _ rfl _ hst ?_
                refine hK.out _ _ trivial (fun _=>?_)
                clear hK K
                try simp only [Act.put,List.getElem_toArray,List.getElem_cons_zero,List.getElem_cons_succ,List.setIfInBounds_toArray,List.set_cons_zero,List.set_cons_succ]
                refine wpAnyH_done (by kernel_rfl) ?_ _
                have hp3:=hp2.kp g3
                obtain ⟨hp4,kb4,ty4⟩:=hp3.doc hs4 (s * 7) rfl (.bool s3) (.slice p3 l3 c3) (.slice q3 k3 d3) (.bool P3) (.bool M3) (.bool N3) (.int .u64 (T3:Int))
                have hs5:=hS3.kb kb4 ty4 (by have:=nbs;omega)
                have hp5:=hp4.close (by simpa using hs5)
                clear hp3 hp4 kb4 ty4 hs5
                generalize (((((((w3.setCell ⟨bm + 1,s * 7,none⟩ (.bool s3)).setCell ⟨bm + 1,s * 7 + 1,none⟩ (.slice p3 l3 c3)).setCell ⟨bm + 1,s * 7 + 2,none⟩ (.slice q3 k3 d3)).setCell ⟨bm + 1,s * 7 + 3,none⟩ (.bool P3)).setCell ⟨bm + 1,s * 7 + 4,none⟩ (.bool M3)).setCell ⟨bm + 1,s * 7 + 5,none⟩ (.bool N3)).setCell ⟨bm + 1,s * 7 + 6,none⟩ (.int .u64 (T3:Int))) = W4 at *
                go_wp2
                exact ⟨⟨_,.int .i64 ((i:Int) + 1),_,_,_,_,_,_,_,_,_,_,_,_,_,_,_,_,_,_,_,_,_,_,_,_,_,_,_,_,_,_,_,_,_,_,_,_,_,_,_,_,_,_,_,_,_,_,_,_,_,_,_,_,_,_,_,_,_,_,_,_,_,_,_,_,_,_,_,_,_,_,_,_,_,_,_,_,_,_,_,_,_,_,_,_,_,_,_,_,_,_,_,_,_,_,_,_,_,_,_,_,_,_,_,_,_,_,_,_,_,_,_,_,_,_,_,_,_,_,_,_,_,_,_,_,_,_,_,_,_,_,_,_,_,_,_,_,_,_,_,_,_,_,_,_,_,_,_,_,_,_,_,_,_,_,_,_,_,_,_,_,_,_,_,_,_,_,_,_,_,_,_,_,_,_,_,_,_,_,_,_,_,_,_,_,_,_,_,_,_,_,_,_,_,_,_,_,_,_,_,_,_,_,_,⟨i + 1,_,_,by go_num,by omega,by omega,hp5⟩,rfl⟩,by simp [intOf];omega⟩
          have n3:(O == 3) = false:=by simpa using o3
          by_cases o4:O = 4
          · as_aux_lemma =>
              subst o4
              obtain ⟨hp,hsl⟩:=ho.opens s hs4
              have m0:=(ho.ptr s hs4).1
              have nbs:=(ho.blk s hs4).1
              have hng:=pNeg_ W1 (B s) (D s) K i hsl
              have ty1:=hsl.ty
              clear ho hsl hslS hslT
              go_upto_region 37 with (first | (go_at_call 15;refine hng.mono ?_;rintro e w2 ⟨⟨v2,rfl⟩,hPn,kb⟩))
              have hp2:Po w w2 bm (bm + 1) K i s B D:=hp.kb hs4 kb ty1
              obtain ⟨e0,f0⟩:w2.cell? ⟨bm + 1,s * 7,none⟩ = some (D s 0)∧w2.frozen? ⟨bm + 1,s * 7,none⟩ = false:=hp2.cells s hs4 0 (by decide)
              obtain ⟨e1,f1⟩:=hp2.cells s hs4 1 (by decide)
              obtain ⟨e2,f2⟩:=hp2.cells s hs4 2 (by decide)
              obtain ⟨e3,f3⟩:=hp2.cells s hs4 3 (by decide)
              obtain ⟨e4,f4⟩:=hp2.cells s hs4 4 (by decide)
              obtain ⟨e5,f5⟩:=hp2.cells s hs4 5 (by decide)
              obtain ⟨e6,f6⟩:=hp2.cells s hs4 6 (by decide)
              have hra:=rNeg_ w2 (B s) (D s) K i hK (by omega) hPn
              clear hp ty1 kb m0 r0 r1 r2 r3 r4 r5 r6 r7 r8 r9 r10 r11 r12 r13 hng h7 hPn
              go_upto_region 38 with (first | (go_at_call 16;refine hra.mono ?_;rintro e w3 ⟨s3,p3,l3,c3,q3,k3,d3,P3,M3,N3,T3,rfl,hS3,g3⟩;replace f0:=(kfro g3 (cell_lt e0)).trans f0;replace e0:=kkeep g3 e0;replace f1:=(kfro g3 (cell_lt e1)).trans f1;replace e1:=kkeep g3 e1;replace f2:=(kfro g3 (cell_lt e2)).trans f2;replace e2:=kkeep g3 e2;replace f3:=(kfro g3 (cell_lt e3)).trans f3;replace e3:=kkeep g3 e3;replace f4:=(kfro g3 (cell_lt e4)).trans f4;replace e4:=kkeep g3 e4;replace f5:=(kfro g3 (cell_lt e5)).trans f5;replace e5:=kkeep g3 e5;replace f6:=(kfro g3 (cell_lt e6)).trans f6;replace e6:=kkeep g3 e6))
              have hp3:=hp2.kp g3
              obtain ⟨hp4,kb4,ty4⟩:=hp3.doc hs4 (s * 7) rfl (.bool s3) (.slice p3 l3 c3) (.slice q3 k3 d3) (.bool P3) (.bool M3) (.bool N3) (.int .u64 (T3:Int))
              have hs5:=hS3.kb kb4 ty4 (by have:=nbs;omega)
              have hp5:=hp4.close (by simpa using hs5)
              clear hp3 hp4 kb4 ty4 hs5
              generalize (((((((w3.setCell ⟨bm + 1,s * 7,none⟩ (.bool s3)).setCell ⟨bm + 1,s * 7 + 1,none⟩ (.slice p3 l3 c3)).setCell ⟨bm + 1,s * 7 + 2,none⟩ (.slice q3 k3 d3)).setCell ⟨bm + 1,s * 7 + 3,none⟩ (.bool P3)).setCell ⟨bm + 1,s * 7 + 4,none⟩ (.bool M3)).setCell ⟨bm + 1,s * 7 + 5,none⟩ (.bool N3)).setCell ⟨bm + 1,s * 7 + 6,none⟩ (.int .u64 (T3:Int))) = W4 at *
              go_wp2
              exact ⟨⟨_,.int .i64 ((i:Int) + 1),_,_,_,_,_,_,_,_,_,_,_,_,_,_,_,_,_,_,_,_,_,_,_,_,_,_,_,_,_,_,_,_,_,_,_,_,_,_,_,_,_,_,_,_,_,_,_,_,_,_,_,_,_,_,_,_,_,_,_,_,_,_,_,_,_,_,_,_,_,_,_,_,_,_,_,_,_,_,_,_,_,_,_,_,_,_,_,_,_,_,_,_,_,_,_,_,_,_,_,_,_,_,_,_,_,_,_,_,_,_,_,_,_,_,_,_,_,_,_,_,_,_,_,_,_,_,_,_,_,_,_,_,_,_,_,_,_,_,_,_,_,_,_,_,_,_,_,_,_,_,_,_,_,_,_,_,_,_,_,_,_,_,_,_,_,_,_,_,_,_,_,_,_,_,_,_,_,_,_,_,_,_,_,_,_,_,_,_,_,_,_,_,_,_,_,_,_,_,_,_,_,_,_,⟨i + 1,_,_,by go_num,by omega,by omega,hp5⟩,rfl⟩,by simp [intOf];omega⟩
          have n4:(O == 4) = false:=by simpa using o4
          by_cases o5:O = 5
          · subst o5
            obtain ⟨hp,hsl⟩:=ho.opens s hs4
            have hst2:=(ho.opens t ht4).2
            obtain ⟨m0,z0⟩:=ho.ptr s hs4
            have m1:=(ho.ptr t ht4).1
            obtain ⟨X9,hX1,hX2,hX4,hX3⟩:=hst2.copy
            have hl9:bm + 1 < W1.heap.size:=World.rowIs.lt hp.docs
            have hld9:(loadVar 41 ⟨B t,0,none⟩).run Tryz.prog W1 = .ok (.agg X9) W1:=run_loadVar_row W1 (B t) 41 41 X9 (0,0) _ hX1 Tryz.underlying41 rfl (by rw [hX2];kernel_rfl)
            have hz:=zeroS
            have hs9:(wc (List.replicate 67 0) ++ #[Value.int .u64 0,Value.int .i64 0]).size = 69:=by rw [Array.size_append,wc_size,List.length_replicate];rfl
            generalize wc (List.replicate 67 0) ++ #[Value.int .u64 0,Value.int .i64 0] = Z at *
            have hst9:=putX W1 Z X9 hs9 hX2 hX4
            have g2:Kp W1 (W1.alloc (.cells X9 41)):=(Kp.refl W1).alloc _
            replace z0:=(kfro g2 (cell_lt m0)).trans z0
            replace m0:=kkeep g2 m0
            have hb9:W1.heap.size < (W1.alloc (.cells X9 41)).heap.size:=by simp
            have HX:Hid (Slt (W1.alloc (.cells X9 41)) W1.heap.size (D t) K i∧Po w W1 bm (bm + 1) K i s B D∧Po w W1 bm (bm + 1) K i 4 B D):=⟨hX3,hp,ho⟩
            clear ho hsl hst2 hslS hslT h7 r0 r1 r2 r3 r4 r5 r6 r7 r8 r9 r10 r11 r12 r13 hX1 hX4 hX3 hp
            go_upto_region 39 with fail
            refine wp_region_list ?_
            refine wpl_val rfl (.int .i64 (t:Int)) rfl ?_
            refine wpl_val rfl (.pointer (some ⟨bm,t,none⟩)) (by simp [go_sem,tt0,tt1]) ?_
            refine wpl_val rfl (.pointer (some ⟨B t,0,none⟩)) (by simp [go_sem,m1]) ?_
            refine wpl_val rfl (.pointer (some ⟨B t,0,none⟩)) (by simp [go_sem]) ?_
            refine wpl_load rfl 41 _ rfl (B t) 0 rfl _ hld9 ?_
            clear m1 hld9
            go_upto_region 40 with fail
            clear hst9 hz hs9
            obtain ⟨hX3,hp,ho⟩:=HX.out
            have hq2:=(hp.kp g2).point hs4 W1.heap.size hb9 hl9 (fun j hj _=>by have:=(hp.blk j hj).2;omega)
            have kb1:Kb bm (W1.alloc (.cells X9 41)) ((W1.alloc (.cells X9 41)).setCell ⟨bm,s,none⟩ (.pointer (some ⟨W1.heap.size,0,none⟩))):=(Kb.refl bm (W1.alloc (.cells X9 41))).setCell s _
            have ty1:TY (W1.alloc (.cells X9 41)) bm:=rowIs_ty (hp.kp g2).mine (by decide)
            obtain ⟨U,V,k9,T3,P3,M3,N3,s9,hS9,⟨s3,p3,l3,c3,q3,k3,d3,⟨j0,j1,j2,j3,j4,j5,j6⟩,hDy⟩,hSq⟩:=hX3
            have hS2:=hS9.kb kb1 (show W1.heap.size≠bm by omega)
            have hDy2:=hDy.kbT kb1 ty1
            clear hS9 hDy kb1 ty1 HX hp ho hX2
            go_upto_region 41 with fail
            clear m0 z0 g2 hb9
            generalize ((W1.alloc (.cells X9 41)).setCell ⟨bm,s,none⟩ (.pointer (some ⟨W1.heap.size,0,none⟩))) = W2 at *
            generalize W1.heap.size = b9 at *
            obtain ⟨e0,f0⟩:W2.cell? ⟨bm + 1,s * 7,none⟩ = some (D s 0)∧W2.frozen? ⟨bm + 1,s * 7,none⟩ = false:=hq2.cells s hs4 0 (by decide)
            obtain ⟨e1,f1⟩:=hq2.cells s hs4 1 (by decide)
            obtain ⟨e2,f2⟩:=hq2.cells s hs4 2 (by decide)
            obtain ⟨e3,f3⟩:=hq2.cells s hs4 3 (by decide)
            obtain ⟨e4,f4⟩:=hq2.cells s hs4 4 (by decide)
            obtain ⟨e5,f5⟩:=hq2.cells s hs4 5 (by decide)
            obtain ⟨e6,f6⟩:=hq2.cells s hs4 6 (by decide)
            obtain ⟨y0,z0⟩:W2.cell? ⟨bm + 1,t * 7,none⟩ = some (D t 0)∧W2.frozen? ⟨bm + 1,t * 7,none⟩ = false:=hq2.cells t ht4 0 (by decide)
            obtain ⟨y1,z1⟩:=hq2.cells t ht4 1 (by decide)
            obtain ⟨y2,z2⟩:=hq2.cells t ht4 2 (by decide)
            obtain ⟨y3,z3⟩:=hq2.cells t ht4 3 (by decide)
            obtain ⟨y4,z4⟩:=hq2.cells t ht4 4 (by decide)
            obtain ⟨y5,z5⟩:=hq2.cells t ht4 5 (by decide)
            obtain ⟨y6,z6⟩:=hq2.cells t ht4 6 (by decide)
            rw [j0] at y0
            rw [j1] at y1
            rw [j2] at y2
            rw [j3] at y3
            rw [j4] at y4
            rw [j5] at y5
            rw [j6] at y6
            go_upto_region 42 with fail
            obtain ⟨hp4,kb4,ty4⟩:=hq2.doc hs4 (s * 7) rfl (.bool s3) (.slice p3 l3 c3) (.slice q3 k3 d3) (.bool P3) (.bool M3) (.bool N3) (.int .u64 (T3:Int))
            have hs5:Slt (((((((W2.setCell ⟨bm + 1,s * 7,none⟩ (.bool s3)).setCell ⟨bm + 1,s * 7 + 1,none⟩ (.slice p3 l3 c3)).setCell ⟨bm + 1,s * 7 + 2,none⟩ (.slice q3 k3 d3)).setCell ⟨bm + 1,s * 7 + 3,none⟩ (.bool P3)).setCell ⟨bm + 1,s * 7 + 4,none⟩ (.bool M3)).setCell ⟨bm + 1,s * 7 + 5,none⟩ (.bool N3)).setCell ⟨bm + 1,s * 7 + 6,none⟩ (.int .u64 (T3:Int))) b9 (sev (.bool s3) (.slice p3 l3 c3) (.slice q3 k3 d3) (.bool P3) (.bool M3) (.bool N3) (.int .u64 (T3:Int))) K (i + 1):=⟨U,V,k9,T3,P3,M3,N3,s9,hS2.kb kb4 (show b9≠bm + 1 by omega),Rq.of (hDy2.kbT kb4 ty4),hSq.up⟩
            have hp5:=hp4.close (by simpa using hs5)
            clear hp4 kb4 ty4 hs5 hq2 hS2 hDy2 e0 f0 y0 z0 e1 f1 y1 z1 e2 f2 y2 z2 e3 f3 y3 z3 e4 f4 y4 z4 e5 f5 y5 z5 e6 f6 y6 z6
            generalize (((((((W2.setCell ⟨bm + 1,s * 7,none⟩ (.bool s3)).setCell ⟨bm + 1,s * 7 + 1,none⟩ (.slice p3 l3 c3)).setCell ⟨bm + 1,s * 7 + 2,none⟩ (.slice q3 k3 d3)).setCell ⟨bm + 1,s * 7 + 3,none⟩ (.bool P3)).setCell ⟨bm + 1,s * 7 + 4,none⟩ (.bool M3)).setCell ⟨bm + 1,s * 7 + 5,none⟩ (.bool N3)).setCell ⟨bm + 1,s * 7 + 6,none⟩ (.int .u64 (T3:Int))) = W4 at *
            go_wp2
            exact ⟨⟨_,.int .i64 ((i:Int) + 1),_,_,_,_,_,_,_,_,_,_,_,_,_,_,_,_,_,_,_,_,_,_,_,_,_,_,_,_,_,_,_,_,_,_,_,_,_,_,_,_,_,_,_,_,_,_,_,_,_,_,_,_,_,_,_,_,_,_,_,_,_,_,_,_,_,_,_,_,_,_,_,_,_,_,_,_,_,_,_,_,_,_,_,_,_,_,_,_,_,_,_,_,_,_,_,_,_,_,_,_,_,_,_,_,_,_,_,_,_,_,_,_,_,_,_,_,_,_,_,_,_,_,_,_,_,_,_,_,_,_,_,_,_,_,_,_,_,_,_,_,_,_,_,_,_,_,_,_,_,_,_,_,_,_,_,_,_,_,_,_,_,_,_,_,_,_,_,_,_,_,_,_,_,_,_,_,_,_,_,_,_,_,_,_,_,_,_,_,_,_,_,_,_,_,_,_,_,_,_,_,_,_,_,⟨i + 1,_,_,by go_num,by omega,by omega,hp5⟩,rfl⟩,by simp [intOf];omega⟩
          have n5:(O == 5) = false:=by simpa using o5
          by_cases o6:O = 6
          · as_aux_lemma =>
              subst o6
              obtain ⟨hp,hsl⟩:=ho.opens s hs4
              have m0:=(ho.ptr s hs4).1
              obtain ⟨e0,f0⟩:W1.cell? ⟨bm + 1,s * 7,none⟩ = some (D s 0)∧W1.frozen? ⟨bm + 1,s * 7,none⟩ = false:=ho.cells s hs4 0 (by decide)
              obtain ⟨e1,f1⟩:=ho.cells s hs4 1 (by decide)
              obtain ⟨e2,f2⟩:=ho.cells s hs4 2 (by decide)
              obtain ⟨e3,f3⟩:=ho.cells s hs4 3 (by decide)
              obtain ⟨e4,f4⟩:=ho.cells s hs4 4 (by decide)
              obtain ⟨e5,f5⟩:=ho.cells s hs4 5 (by decide)
              obtain ⟨e6,f6⟩:=ho.cells s hs4 6 (by decide)
              obtain ⟨R,hP,hB,hR⟩:=aRound_ d x3.1 x3.2 W1 (B s) (D s) K i hK (by omega) hsl
              have hT1:=hT.grown ho.old
              have hQ1:=Fq.Tab.grown hQ ho.old
              have hT9:Tab W1.drew:=hT1.grown (Kp.drew (Kp.refl _))
              have hQ9:Fq.Tab W1.drew:=Fq.Tab.grown hQ1 (Kp.drew (Kp.refl _))
              have HO:Hid (Po w W1 bm (bm + 1) K i 4 B D):=ho
              clear ho hp hsl hslS hslT f0 f1 f2 f3 f4 f5 f6 h7
              go_upto_region 43 with fail
              go_region_held3 (fun w'=>w'.cell? ⟨bm,s,none⟩ = some (.pointer (some ⟨B s,0,none⟩))∧w'.cell? ⟨bp,5,none⟩ = some (.int .i64 d)∧w'.cell? ⟨bm + 1,s * 7,none⟩ = some (D s 0)∧w'.cell? ⟨bm + 1,s * 7 + 1,none⟩ = some (D s 1)∧w'.cell? ⟨bm + 1,s * 7 + 2,none⟩ = some (D s 2)∧w'.cell? ⟨bm + 1,s * 7 + 3,none⟩ = some (D s 3)∧w'.cell? ⟨bm + 1,s * 7 + 4,none⟩ = some (D s 4)∧w'.cell? ⟨bm + 1,s * 7 + 5,none⟩ = some (D s 5)∧w'.cell? ⟨bm + 1,s * 7 + 6,none⟩ = some (D s 6)) (first | (with_reducible exact ⟨m0,r5,e0,e1,e2,e3,e4,e5,e6⟩) | (exact ⟨kkeep (W:=W1) (Kp.drew (Kp.refl _)) m0,kkeep (W:=W1) (Kp.drew (Kp.refl _)) r5,kkeep (W:=W1) (Kp.drew (Kp.refl _)) e0,kkeep (W:=W1) (Kp.drew (Kp.refl _)) e1,kkeep (W:=W1) (Kp.drew (Kp.refl _)) e2,kkeep (W:=W1) (Kp.drew (Kp.refl _)) e3,kkeep (W:=W1) (Kp.drew (Kp.refl _)) e4,kkeep (W:=W1) (Kp.drew (Kp.refl _)) e5,kkeep (W:=W1) (Kp.drew (Kp.refl _)) e6⟩) | (exact ⟨kkeep (W:=W1) kb m0,kkeep (W:=W1) kb r5,kkeep (W:=W1) kb e0,kkeep (W:=W1) kb e1,kkeep (W:=W1) kb e2,kkeep (W:=W1) kb e3,kkeep (W:=W1) kb e4,kkeep (W:=W1) kb e5,kkeep (W:=W1) kb e6⟩) | (exact ⟨kkeep (W:=W1) ka m0,kkeep (W:=W1) ka r5,kkeep (W:=W1) ka e0,kkeep (W:=W1) ka e1,kkeep (W:=W1) ka e2,kkeep (W:=W1) ka e3,kkeep (W:=W1) ka e4,kkeep (W:=W1) ka e5,kkeep (W:=W1) ka e6⟩)) (first | (go_at_call 17;refine (hB _).mono ?_;rintro e w' ⟨rfl,hw'⟩;obtain rfl:=hw'.symm;clear hw') | (go_at_call 19;refine (hR _ ka).mono ?_;rintro e wb ⟨rfl,gb⟩;have kb:Kp W1 wb:=Kp.trans ka gb) | (go_at_call 18;refine (hP _ kb hTb hQb).mono ?_;rintro e wa ⟨rfl,ga⟩;have ka:Kp W1 wa:=Kp.trans kb ga) | (go_at_call 18;refine (hP _ (Kp.drew (Kp.refl _)) hT9 hQ9).mono ?_;rintro e wa ⟨rfl,ga⟩;have ka:Kp W1 wa:=Kp.trans (Kp.drew (Kp.refl _)) ga) | (go_at_call 19;refine (hR _ (Kp.drew (Kp.refl _))).mono ?_;rintro e wb ⟨rfl,gb⟩;have kb:Kp W1 wb:=Kp.trans (Kp.drew (Kp.refl _)) gb;have hTb:=hT1.grown kb;have hQb:=Fq.Tab.grown hQ1 kb))
              all_goals (
                first
                | skip
                  have hp5:=(HO.out.kp kb).upAll
                  go_wp2
                  exact ⟨⟨_,.int .i64 ((i:Int) + 1),_,_,_,_,_,_,_,_,_,_,_,_,_,_,_,_,_,_,_,_,_,_,_,_,_,_,_,_,_,_,_,_,_,_,_,_,_,_,_,_,_,_,_,_,_,_,_,_,_,_,_,_,_,_,_,_,_,_,_,_,_,_,_,_,_,_,_,_,_,_,_,_,_,_,_,_,_,_,_,_,_,_,_,_,_,_,_,_,_,_,_,_,_,_,_,_,_,_,_,_,_,_,_,_,_,_,_,_,_,_,_,_,_,_,_,_,_,_,_,_,_,_,_,_,_,_,_,_,_,_,_,_,_,_,_,_,_,_,_,_,_,_,_,_,_,_,_,_,_,_,_,_,_,_,_,_,_,_,_,_,_,_,_,_,_,_,_,_,_,_,_,_,_,_,_,_,_,_,_,_,_,_,_,_,_,_,_,_,_,_,_,_,_,_,_,_,_,_,_,_,_,_,_,⟨i + 1,_,_,by go_num,by omega,by omega,hp5⟩,rfl⟩,by simp [intOf];omega⟩
                | skip
                  have hp5:=(HO.out.kp ka).upAll
                  go_wp2
                  exact ⟨⟨_,.int .i64 ((i:Int) + 1),_,_,_,_,_,_,_,_,_,_,_,_,_,_,_,_,_,_,_,_,_,_,_,_,_,_,_,_,_,_,_,_,_,_,_,_,_,_,_,_,_,_,_,_,_,_,_,_,_,_,_,_,_,_,_,_,_,_,_,_,_,_,_,_,_,_,_,_,_,_,_,_,_,_,_,_,_,_,_,_,_,_,_,_,_,_,_,_,_,_,_,_,_,_,_,_,_,_,_,_,_,_,_,_,_,_,_,_,_,_,_,_,_,_,_,_,_,_,_,_,_,_,_,_,_,_,_,_,_,_,_,_,_,_,_,_,_,_,_,_,_,_,_,_,_,_,_,_,_,_,_,_,_,_,_,_,_,_,_,_,_,_,_,_,_,_,_,_,_,_,_,_,_,_,_,_,_,_,_,_,_,_,_,_,_,_,_,_,_,_,_,_,_,_,_,_,_,_,_,_,_,_,_,⟨i + 1,_,_,by go_num,by omega,by omega,hp5⟩,rfl⟩,by simp [intOf];omega⟩)
          have n6:(O == 6) = false:=by simpa using o6
          by_cases o7:O = 7
          · as_aux_lemma =>
              subst o7
              obtain ⟨hp,hsl⟩:=ho.opens s hs4
              have m0:=(ho.ptr s hs4).1
              obtain ⟨e0,f0⟩:W1.cell? ⟨bm + 1,s * 7,none⟩ = some (D s 0)∧W1.frozen? ⟨bm + 1,s * 7,none⟩ = false:=ho.cells s hs4 0 (by decide)
              obtain ⟨e1,f1⟩:=ho.cells s hs4 1 (by decide)
              obtain ⟨e2,f2⟩:=ho.cells s hs4 2 (by decide)
              obtain ⟨e3,f3⟩:=ho.cells s hs4 3 (by decide)
              obtain ⟨e4,f4⟩:=ho.cells s hs4 4 (by decide)
              obtain ⟨e5,f5⟩:=ho.cells s hs4 5 (by decide)
              obtain ⟨e6,f6⟩:=ho.cells s hs4 6 (by decide)
              obtain ⟨R,hP,hB,hR⟩:=aOver_ d m x3.1 x3.2 x4 W1 (B s) (D s) K i hK (by omega) hsl
              have hT1:=hT.grown ho.old
              have hQ1:=Fq.Tab.grown hQ ho.old
              have hT9:Tab W1.drew:=hT1.grown (Kp.drew (Kp.refl _))
              have hQ9:Fq.Tab W1.drew:=Fq.Tab.grown hQ1 (Kp.drew (Kp.refl _))
              have HO:Hid (Po w W1 bm (bm + 1) K i 4 B D):=ho
              clear ho hp hsl hslS hslT f0 f1 f2 f3 f4 f5 f6 h7
              go_upto_region 46 with fail
              go_region_held3 (fun w'=>w'.cell? ⟨bm,s,none⟩ = some (.pointer (some ⟨B s,0,none⟩))∧w'.cell? ⟨bp,5,none⟩ = some (.int .i64 d)∧w'.cell? ⟨bp,6,none⟩ = some (.int .i64 m)∧w'.cell? ⟨bm + 1,s * 7,none⟩ = some (D s 0)∧w'.cell? ⟨bm + 1,s * 7 + 1,none⟩ = some (D s 1)∧w'.cell? ⟨bm + 1,s * 7 + 2,none⟩ = some (D s 2)∧w'.cell? ⟨bm + 1,s * 7 + 3,none⟩ = some (D s 3)∧w'.cell? ⟨bm + 1,s * 7 + 4,none⟩ = some (D s 4)∧w'.cell? ⟨bm + 1,s * 7 + 5,none⟩ = some (D s 5)∧w'.cell? ⟨bm + 1,s * 7 + 6,none⟩ = some (D s 6)) (first | (with_reducible exact ⟨m0,r5,r6,e0,e1,e2,e3,e4,e5,e6⟩) | (exact ⟨kkeep (W:=W1) (Kp.drew (Kp.refl _)) m0,kkeep (W:=W1) (Kp.drew (Kp.refl _)) r5,kkeep (W:=W1) (Kp.drew (Kp.refl _)) r6,kkeep (W:=W1) (Kp.drew (Kp.refl _)) e0,kkeep (W:=W1) (Kp.drew (Kp.refl _)) e1,kkeep (W:=W1) (Kp.drew (Kp.refl _)) e2,kkeep (W:=W1) (Kp.drew (Kp.refl _)) e3,kkeep (W:=W1) (Kp.drew (Kp.refl _)) e4,kkeep (W:=W1) (Kp.drew (Kp.refl _)) e5,kkeep (W:=W1) (Kp.drew (Kp.refl _)) e6⟩) | (exact ⟨kkeep (W:=W1) kb m0,kkeep (W:=W1) kb r5,kkeep (W:=W1) kb r6,kkeep (W:=W1) kb e0,kkeep (W:=W1) kb e1,kkeep (W:=W1) kb e2,kkeep (W:=W1) kb e3,kkeep (W:=W1) kb e4,kkeep (W:=W1) kb e5,kkeep (W:=W1) kb e6⟩) | (exact ⟨kkeep (W:=W1) ka m0,kkeep (W:=W1) ka r5,kkeep (W:=W1) ka r6,kkeep (W:=W1) ka e0,kkeep (W:=W1) ka e1,kkeep (W:=W1) ka e2,kkeep (W:=W1) ka e3,kkeep (W:=W1) ka e4,kkeep (W:=W1) ka e5,kkeep (W:=W1) ka e6⟩)) (first | (go_at_call 17;refine (hB _).mono ?_;rintro e w' ⟨rfl,hw'⟩;obtain rfl:=hw'.symm;clear hw') | (go_at_call 21;refine (hR _ ka).mono ?_;rintro e wb ⟨rfl,gb⟩;have kb:Kp W1 wb:=Kp.trans ka gb) | (go_at_call 20;refine (hP _ kb hQb).mono ?_;rintro e wa ⟨rfl,ga⟩;have ka:Kp W1 wa:=Kp.trans kb ga) | (go_at_call 20;refine (hP _ (Kp.drew (Kp.refl _)) hQ9).mono ?_;rintro e wa ⟨rfl,ga⟩;have ka:Kp W1 wa:=Kp.trans (Kp.drew (Kp.refl _)) ga) | (go_at_call 21;refine (hR _ (Kp.drew (Kp.refl _))).mono ?_;rintro e wb ⟨rfl,gb⟩;have kb:Kp W1 wb:=Kp.trans (Kp.drew (Kp.refl _)) gb;have hTb:=hT1.grown kb;have hQb:=Fq.Tab.grown hQ1 kb))
              all_goals (
                first
                | skip
                  have hp5:=(HO.out.kp kb).upAll
                  go_wp2
                  exact ⟨⟨_,.int .i64 ((i:Int) + 1),_,_,_,_,_,_,_,_,_,_,_,_,_,_,_,_,_,_,_,_,_,_,_,_,_,_,_,_,_,_,_,_,_,_,_,_,_,_,_,_,_,_,_,_,_,_,_,_,_,_,_,_,_,_,_,_,_,_,_,_,_,_,_,_,_,_,_,_,_,_,_,_,_,_,_,_,_,_,_,_,_,_,_,_,_,_,_,_,_,_,_,_,_,_,_,_,_,_,_,_,_,_,_,_,_,_,_,_,_,_,_,_,_,_,_,_,_,_,_,_,_,_,_,_,_,_,_,_,_,_,_,_,_,_,_,_,_,_,_,_,_,_,_,_,_,_,_,_,_,_,_,_,_,_,_,_,_,_,_,_,_,_,_,_,_,_,_,_,_,_,_,_,_,_,_,_,_,_,_,_,_,_,_,_,_,_,_,_,_,_,_,_,_,_,_,_,_,_,_,_,_,_,_,⟨i + 1,_,_,by go_num,by omega,by omega,hp5⟩,rfl⟩,by simp [intOf];omega⟩
                | skip
                  have hp5:=(HO.out.kp ka).upAll
                  go_wp2
                  exact ⟨⟨_,.int .i64 ((i:Int) + 1),_,_,_,_,_,_,_,_,_,_,_,_,_,_,_,_,_,_,_,_,_,_,_,_,_,_,_,_,_,_,_,_,_,_,_,_,_,_,_,_,_,_,_,_,_,_,_,_,_,_,_,_,_,_,_,_,_,_,_,_,_,_,_,_,_,_,_,_,_,_,_,_,_,_,_,_,_,_,_,_,_,_,_,_,_,_,_,_,_,_,_,_,_,_,_,_,_,_,_,_,_,_,_,_,_,_,_,_,_,_,_,_,_,_,_,_,_,_,_,_,_,_,_,_,_,_,_,_,_,_,_,_,_,_,_,_,_,_,_,_,_,_,_,_,_,_,_,_,_,_,_,_,_,_,_,_,_,_,_,_,_,_,_,_,_,_,_,_,_,_,_,_,_,_,_,_,_,_,_,_,_,_,_,_,_,_,_,_,_,_,_,_,_,_,_,_,_,_,_,_,_,_,_,⟨i + 1,_,_,by go_num,by omega,by omega,hp5⟩,rfl⟩,by simp [intOf];omega⟩)
          have n7:(O == 7) = false:=by simpa using o7
          by_cases o8:O = 8
          · as_aux_lemma =>
              subst o8
              obtain ⟨hp,hsl⟩:=ho.opens s hs4
              have m0:=(ho.ptr s hs4).1
              obtain ⟨e0,f0⟩:W1.cell? ⟨bm + 1,s * 7,none⟩ = some (D s 0)∧W1.frozen? ⟨bm + 1,s * 7,none⟩ = false:=ho.cells s hs4 0 (by decide)
              obtain ⟨e1,f1⟩:=ho.cells s hs4 1 (by decide)
              obtain ⟨e2,f2⟩:=ho.cells s hs4 2 (by decide)
              obtain ⟨e3,f3⟩:=ho.cells s hs4 3 (by decide)
              obtain ⟨e4,f4⟩:=ho.cells s hs4 4 (by decide)
              obtain ⟨e5,f5⟩:=ho.cells s hs4 5 (by decide)
              obtain ⟨e6,f6⟩:=ho.cells s hs4 6 (by decide)
              obtain ⟨R,hP,hB,hR⟩:=aRoot_ d x3.1 x3.2 W1 (B s) (D s) K i hK (by omega) hsl
              have hT1:=hT.grown ho.old
              have hQ1:=Fq.Tab.grown hQ ho.old
              have hT9:Tab W1.drew:=hT1.grown (Kp.drew (Kp.refl _))
              have hQ9:Fq.Tab W1.drew:=Fq.Tab.grown hQ1 (Kp.drew (Kp.refl _))
              have HO:Hid (Po w W1 bm (bm + 1) K i 4 B D):=ho
              clear ho hp hsl hslS hslT f0 f1 f2 f3 f4 f5 f6 h7
              go_upto_region 49 with fail
              go_region_held3 (fun w'=>w'.cell? ⟨bm,s,none⟩ = some (.pointer (some ⟨B s,0,none⟩))∧w'.cell? ⟨bp,5,none⟩ = some (.int .i64 d)∧w'.cell? ⟨bm + 1,s * 7,none⟩ = some (D s 0)∧w'.cell? ⟨bm + 1,s * 7 + 1,none⟩ = some (D s 1)∧w'.cell? ⟨bm + 1,s * 7 + 2,none⟩ = some (D s 2)∧w'.cell? ⟨bm + 1,s * 7 + 3,none⟩ = some (D s 3)∧w'.cell? ⟨bm + 1,s * 7 + 4,none⟩ = some (D s 4)∧w'.cell? ⟨bm + 1,s * 7 + 5,none⟩ = some (D s 5)∧w'.cell? ⟨bm + 1,s * 7 + 6,none⟩ = some (D s 6)) (first | (with_reducible exact ⟨m0,r5,e0,e1,e2,e3,e4,e5,e6⟩) | (exact ⟨kkeep (W:=W1) (Kp.drew (Kp.refl _)) m0,kkeep (W:=W1) (Kp.drew (Kp.refl _)) r5,kkeep (W:=W1) (Kp.drew (Kp.refl _)) e0,kkeep (W:=W1) (Kp.drew (Kp.refl _)) e1,kkeep (W:=W1) (Kp.drew (Kp.refl _)) e2,kkeep (W:=W1) (Kp.drew (Kp.refl _)) e3,kkeep (W:=W1) (Kp.drew (Kp.refl _)) e4,kkeep (W:=W1) (Kp.drew (Kp.refl _)) e5,kkeep (W:=W1) (Kp.drew (Kp.refl _)) e6⟩) | (exact ⟨kkeep (W:=W1) kb m0,kkeep (W:=W1) kb r5,kkeep (W:=W1) kb e0,kkeep (W:=W1) kb e1,kkeep (W:=W1) kb e2,kkeep (W:=W1) kb e3,kkeep (W:=W1) kb e4,kkeep (W:=W1) kb e5,kkeep (W:=W1) kb e6⟩) | (exact ⟨kkeep (W:=W1) ka m0,kkeep (W:=W1) ka r5,kkeep (W:=W1) ka e0,kkeep (W:=W1) ka e1,kkeep (W:=W1) ka e2,kkeep (W:=W1) ka e3,kkeep (W:=W1) ka e4,kkeep (W:=W1) ka e5,kkeep (W:=W1) ka e6⟩)) (first | (go_at_call 17;refine (hB _).mono ?_;rintro e w' ⟨rfl,hw'⟩;obtain rfl:=hw'.symm;clear hw') | (go_at_call 23;refine (hR _ ka).mono ?_;rintro e wb ⟨rfl,gb⟩;have kb:Kp W1 wb:=Kp.trans ka gb) | (go_at_call 22;refine (hP _ kb hTb hQb).mono ?_;rintro e wa ⟨rfl,ga⟩;have ka:Kp W1 wa:=Kp.trans kb ga) | (go_at_call 22;refine (hP _ (Kp.drew (Kp.refl _)) hT9 hQ9).mono ?_;rintro e wa ⟨rfl,ga⟩;have ka:Kp W1 wa:=Kp.trans (Kp.drew (Kp.refl _)) ga) | (go_at_call 23;refine (hR _ (Kp.drew (Kp.refl _))).mono ?_;rintro e wb ⟨rfl,gb⟩;have kb:Kp W1 wb:=Kp.trans (Kp.drew (Kp.refl _)) gb;have hTb:=hT1.grown kb;have hQb:=Fq.Tab.grown hQ1 kb))
              all_goals (
                first
                | skip
                  have hp5:=(HO.out.kp kb).upAll
                  go_wp2
                  exact ⟨⟨_,.int .i64 ((i:Int) + 1),_,_,_,_,_,_,_,_,_,_,_,_,_,_,_,_,_,_,_,_,_,_,_,_,_,_,_,_,_,_,_,_,_,_,_,_,_,_,_,_,_,_,_,_,_,_,_,_,_,_,_,_,_,_,_,_,_,_,_,_,_,_,_,_,_,_,_,_,_,_,_,_,_,_,_,_,_,_,_,_,_,_,_,_,_,_,_,_,_,_,_,_,_,_,_,_,_,_,_,_,_,_,_,_,_,_,_,_,_,_,_,_,_,_,_,_,_,_,_,_,_,_,_,_,_,_,_,_,_,_,_,_,_,_,_,_,_,_,_,_,_,_,_,_,_,_,_,_,_,_,_,_,_,_,_,_,_,_,_,_,_,_,_,_,_,_,_,_,_,_,_,_,_,_,_,_,_,_,_,_,_,_,_,_,_,_,_,_,_,_,_,_,_,_,_,_,_,_,_,_,_,_,_,⟨i + 1,_,_,by go_num,by omega,by omega,hp5⟩,rfl⟩,by simp [intOf];omega⟩
                | skip
                  have hp5:=(HO.out.kp ka).upAll
                  go_wp2
                  exact ⟨⟨_,.int .i64 ((i:Int) + 1),_,_,_,_,_,_,_,_,_,_,_,_,_,_,_,_,_,_,_,_,_,_,_,_,_,_,_,_,_,_,_,_,_,_,_,_,_,_,_,_,_,_,_,_,_,_,_,_,_,_,_,_,_,_,_,_,_,_,_,_,_,_,_,_,_,_,_,_,_,_,_,_,_,_,_,_,_,_,_,_,_,_,_,_,_,_,_,_,_,_,_,_,_,_,_,_,_,_,_,_,_,_,_,_,_,_,_,_,_,_,_,_,_,_,_,_,_,_,_,_,_,_,_,_,_,_,_,_,_,_,_,_,_,_,_,_,_,_,_,_,_,_,_,_,_,_,_,_,_,_,_,_,_,_,_,_,_,_,_,_,_,_,_,_,_,_,_,_,_,_,_,_,_,_,_,_,_,_,_,_,_,_,_,_,_,_,_,_,_,_,_,_,_,_,_,_,_,_,_,_,_,_,_,⟨i + 1,_,_,by go_num,by omega,by omega,hp5⟩,rfl⟩,by simp [intOf];omega⟩)
          have n8:(O == 8) = false:=by simpa using o8
          by_cases o9:O = 9
          · as_aux_lemma =>
              subst o9
              obtain ⟨hp,hsl⟩:=ho.opens s hs4
              have m0:=(ho.ptr s hs4).1
              obtain ⟨e0,f0⟩:W1.cell? ⟨bm + 1,s * 7,none⟩ = some (D s 0)∧W1.frozen? ⟨bm + 1,s * 7,none⟩ = false:=ho.cells s hs4 0 (by decide)
              obtain ⟨e1,f1⟩:=ho.cells s hs4 1 (by decide)
              obtain ⟨e2,f2⟩:=ho.cells s hs4 2 (by decide)
              obtain ⟨e3,f3⟩:=ho.cells s hs4 3 (by decide)
              obtain ⟨e4,f4⟩:=ho.cells s hs4 4 (by decide)
              obtain ⟨e5,f5⟩:=ho.cells s hs4 5 (by decide)
              obtain ⟨e6,f6⟩:=ho.cells s hs4 6 (by decide)
              obtain ⟨R,hP,hR⟩:=aSign_ W1 (B s) (D s) K i hK (by omega) hsl
              have hT1:=hT.grown ho.old
              have hQ1:=Fq.Tab.grown hQ ho.old
              have hT9:Tab W1.drew:=hT1.grown (Kp.drew (Kp.refl _))
              have hQ9:Fq.Tab W1.drew:=Fq.Tab.grown hQ1 (Kp.drew (Kp.refl _))
              have HO:Hid (Po w W1 bm (bm + 1) K i 4 B D):=ho
              clear ho hp hsl hslS hslT f0 f1 f2 f3 f4 f5 f6 h7
              go_upto_region 52 with fail
              go_region_held3 (fun w'=>w'.cell? ⟨bm,s,none⟩ = some (.pointer (some ⟨B s,0,none⟩))∧w'.cell? ⟨bm + 1,s * 7,none⟩ = some (D s 0)∧w'.cell? ⟨bm + 1,s * 7 + 1,none⟩ = some (D s 1)∧w'.cell? ⟨bm + 1,s * 7 + 2,none⟩ = some (D s 2)∧w'.cell? ⟨bm + 1,s * 7 + 3,none⟩ = some (D s 3)∧w'.cell? ⟨bm + 1,s * 7 + 4,none⟩ = some (D s 4)∧w'.cell? ⟨bm + 1,s * 7 + 5,none⟩ = some (D s 5)∧w'.cell? ⟨bm + 1,s * 7 + 6,none⟩ = some (D s 6)) (first | (with_reducible exact ⟨m0,e0,e1,e2,e3,e4,e5,e6⟩) | (exact ⟨kkeep (W:=W1) (Kp.drew (Kp.refl _)) m0,kkeep (W:=W1) (Kp.drew (Kp.refl _)) e0,kkeep (W:=W1) (Kp.drew (Kp.refl _)) e1,kkeep (W:=W1) (Kp.drew (Kp.refl _)) e2,kkeep (W:=W1) (Kp.drew (Kp.refl _)) e3,kkeep (W:=W1) (Kp.drew (Kp.refl _)) e4,kkeep (W:=W1) (Kp.drew (Kp.refl _)) e5,kkeep (W:=W1) (Kp.drew (Kp.refl _)) e6⟩) | (exact ⟨kkeep (W:=W1) kb m0,kkeep (W:=W1) kb e0,kkeep (W:=W1) kb e1,kkeep (W:=W1) kb e2,kkeep (W:=W1) kb e3,kkeep (W:=W1) kb e4,kkeep (W:=W1) kb e5,kkeep (W:=W1) kb e6⟩) | (exact ⟨kkeep (W:=W1) ka m0,kkeep (W:=W1) ka e0,kkeep (W:=W1) ka e1,kkeep (W:=W1) ka e2,kkeep (W:=W1) ka e3,kkeep (W:=W1) ka e4,kkeep (W:=W1) ka e5,kkeep (W:=W1) ka e6⟩)) (first | (go_at_call 25;refine (hR _ ka).mono ?_;rintro e wb ⟨rfl,gb⟩;have kb:Kp W1 wb:=Kp.trans ka gb) | (go_at_call 24;refine (hP _ kb).mono ?_;rintro e wa ⟨rfl,ga⟩;have ka:Kp W1 wa:=Kp.trans kb ga) | (go_at_call 24;refine (hP _ (Kp.drew (Kp.refl _))).mono ?_;rintro e wa ⟨rfl,ga⟩;have ka:Kp W1 wa:=Kp.trans (Kp.drew (Kp.refl _)) ga) | (go_at_call 25;refine (hR _ (Kp.drew (Kp.refl _))).mono ?_;rintro e wb ⟨rfl,gb⟩;have kb:Kp W1 wb:=Kp.trans (Kp.drew (Kp.refl _)) gb))
              all_goals (
                first
                | skip
                  have hp5:=(HO.out.kp kb).upAll
                  go_wp2
                  exact ⟨⟨_,.int .i64 ((i:Int) + 1),_,_,_,_,_,_,_,_,_,_,_,_,_,_,_,_,_,_,_,_,_,_,_,_,_,_,_,_,_,_,_,_,_,_,_,_,_,_,_,_,_,_,_,_,_,_,_,_,_,_,_,_,_,_,_,_,_,_,_,_,_,_,_,_,_,_,_,_,_,_,_,_,_,_,_,_,_,_,_,_,_,_,_,_,_,_,_,_,_,_,_,_,_,_,_,_,_,_,_,_,_,_,_,_,_,_,_,_,_,_,_,_,_,_,_,_,_,_,_,_,_,_,_,_,_,_,_,_,_,_,_,_,_,_,_,_,_,_,_,_,_,_,_,_,_,_,_,_,_,_,_,_,_,_,_,_,_,_,_,_,_,_,_,_,_,_,_,_,_,_,_,_,_,_,_,_,_,_,_,_,_,_,_,_,_,_,_,_,_,_,_,_,_,_,_,_,_,_,_,_,_,_,_,⟨i + 1,_,_,by go_num,by omega,by omega,hp5⟩,rfl⟩,by simp [intOf];omega⟩
                | skip
                  have hp5:=(HO.out.kp ka).upAll
                  go_wp2
                  exact ⟨⟨_,.int .i64 ((i:Int) + 1),_,_,_,_,_,_,_,_,_,_,_,_,_,_,_,_,_,_,_,_,_,_,_,_,_,_,_,_,_,_,_,_,_,_,_,_,_,_,_,_,_,_,_,_,_,_,_,_,_,_,_,_,_,_,_,_,_,_,_,_,_,_,_,_,_,_,_,_,_,_,_,_,_,_,_,_,_,_,_,_,_,_,_,_,_,_,_,_,_,_,_,_,_,_,_,_,_,_,_,_,_,_,_,_,_,_,_,_,_,_,_,_,_,_,_,_,_,_,_,_,_,_,_,_,_,_,_,_,_,_,_,_,_,_,_,_,_,_,_,_,_,_,_,_,_,_,_,_,_,_,_,_,_,_,_,_,_,_,_,_,_,_,_,_,_,_,_,_,_,_,_,_,_,_,_,_,_,_,_,_,_,_,_,_,_,_,_,_,_,_,_,_,_,_,_,_,_,_,_,_,_,_,_,⟨i + 1,_,_,by go_num,by omega,by omega,hp5⟩,rfl⟩,by simp [intOf];omega⟩)
          have n9:(O == 9) = false:=by simpa using o9
          by_cases o10:O = 10
          · as_aux_lemma =>
              subst o10
              obtain ⟨hp,hsl⟩:=ho.opens s hs4
              have m0:=(ho.ptr s hs4).1
              obtain ⟨e0,f0⟩:W1.cell? ⟨bm + 1,s * 7,none⟩ = some (D s 0)∧W1.frozen? ⟨bm + 1,s * 7,none⟩ = false:=ho.cells s hs4 0 (by decide)
              obtain ⟨e1,f1⟩:=ho.cells s hs4 1 (by decide)
              obtain ⟨e2,f2⟩:=ho.cells s hs4 2 (by decide)
              obtain ⟨e3,f3⟩:=ho.cells s hs4 3 (by decide)
              obtain ⟨e4,f4⟩:=ho.cells s hs4 4 (by decide)
              obtain ⟨e5,f5⟩:=ho.cells s hs4 5 (by decide)
              obtain ⟨e6,f6⟩:=ho.cells s hs4 6 (by decide)
              obtain ⟨R,hP,hR⟩:=aState_ W1 (B s) (D s) K i hsl
              have hT1:=hT.grown ho.old
              have hQ1:=Fq.Tab.grown hQ ho.old
              have hT9:Tab W1.drew:=hT1.grown (Kp.drew (Kp.refl _))
              have hQ9:Fq.Tab W1.drew:=Fq.Tab.grown hQ1 (Kp.drew (Kp.refl _))
              have HO:Hid (Po w W1 bm (bm + 1) K i 4 B D):=ho
              clear ho hp hsl hslS hslT f0 f1 f2 f3 f4 f5 f6 h7
              go_upto_region 55 with fail
              go_region_held3 (fun w'=>w'.cell? ⟨bm,s,none⟩ = some (.pointer (some ⟨B s,0,none⟩))∧w'.cell? ⟨bm + 1,s * 7,none⟩ = some (D s 0)∧w'.cell? ⟨bm + 1,s * 7 + 1,none⟩ = some (D s 1)∧w'.cell? ⟨bm + 1,s * 7 + 2,none⟩ = some (D s 2)∧w'.cell? ⟨bm + 1,s * 7 + 3,none⟩ = some (D s 3)∧w'.cell? ⟨bm + 1,s * 7 + 4,none⟩ = some (D s 4)∧w'.cell? ⟨bm + 1,s * 7 + 5,none⟩ = some (D s 5)∧w'.cell? ⟨bm + 1,s * 7 + 6,none⟩ = some (D s 6)) (first | (with_reducible exact ⟨m0,e0,e1,e2,e3,e4,e5,e6⟩) | (exact ⟨kkeep (W:=W1) (Kp.drew (Kp.refl _)) m0,kkeep (W:=W1) (Kp.drew (Kp.refl _)) e0,kkeep (W:=W1) (Kp.drew (Kp.refl _)) e1,kkeep (W:=W1) (Kp.drew (Kp.refl _)) e2,kkeep (W:=W1) (Kp.drew (Kp.refl _)) e3,kkeep (W:=W1) (Kp.drew (Kp.refl _)) e4,kkeep (W:=W1) (Kp.drew (Kp.refl _)) e5,kkeep (W:=W1) (Kp.drew (Kp.refl _)) e6⟩) | (exact ⟨kkeep (W:=W1) kb m0,kkeep (W:=W1) kb e0,kkeep (W:=W1) kb e1,kkeep (W:=W1) kb e2,kkeep (W:=W1) kb e3,kkeep (W:=W1) kb e4,kkeep (W:=W1) kb e5,kkeep (W:=W1) kb e6⟩) | (exact ⟨kkeep (W:=W1) ka m0,kkeep (W:=W1) ka e0,kkeep (W:=W1) ka e1,kkeep (W:=W1) ka e2,kkeep (W:=W1) ka e3,kkeep (W:=W1) ka e4,kkeep (W:=W1) ka e5,kkeep (W:=W1) ka e6⟩)) (first | (go_at_call 26;refine (hP _ kb).mono ?_;rintro e w' ⟨rfl,hw'⟩;obtain rfl:=hw'.symm;clear hw') | (go_at_call 26;refine (hP _ (Kp.drew (Kp.refl _))).mono ?_;rintro e w' ⟨rfl,hw'⟩;obtain rfl:=hw'.symm;clear hw') | (go_at_call 27;refine (hR _).mono ?_;rintro e wb ⟨rfl,gb⟩;have kb:Kp W1 wb:=Kp.trans (Kp.drew (Kp.refl _)) gb))
              all_goals (
                first
                | skip
                  have hp5:=(HO.out.kp kb).upAll
                  go_wp2
                  exact ⟨⟨_,.int .i64 ((i:Int) + 1),_,_,_,_,_,_,_,_,_,_,_,_,_,_,_,_,_,_,_,_,_,_,_,_,_,_,_,_,_,_,_,_,_,_,_,_,_,_,_,_,_,_,_,_,_,_,_,_,_,_,_,_,_,_,_,_,_,_,_,_,_,_,_,_,_,_,_,_,_,_,_,_,_,_,_,_,_,_,_,_,_,_,_,_,_,_,_,_,_,_,_,_,_,_,_,_,_,_,_,_,_,_,_,_,_,_,_,_,_,_,_,_,_,_,_,_,_,_,_,_,_,_,_,_,_,_,_,_,_,_,_,_,_,_,_,_,_,_,_,_,_,_,_,_,_,_,_,_,_,_,_,_,_,_,_,_,_,_,_,_,_,_,_,_,_,_,_,_,_,_,_,_,_,_,_,_,_,_,_,_,_,_,_,_,_,_,_,_,_,_,_,_,_,_,_,_,_,_,_,_,_,_,_,⟨i + 1,_,_,by go_num,by omega,by omega,hp5⟩,rfl⟩,by simp [intOf];omega⟩
                | skip
                  have hp5:=(HO.out.kp ka).upAll
                  go_wp2
                  exact ⟨⟨_,.int .i64 ((i:Int) + 1),_,_,_,_,_,_,_,_,_,_,_,_,_,_,_,_,_,_,_,_,_,_,_,_,_,_,_,_,_,_,_,_,_,_,_,_,_,_,_,_,_,_,_,_,_,_,_,_,_,_,_,_,_,_,_,_,_,_,_,_,_,_,_,_,_,_,_,_,_,_,_,_,_,_,_,_,_,_,_,_,_,_,_,_,_,_,_,_,_,_,_,_,_,_,_,_,_,_,_,_,_,_,_,_,_,_,_,_,_,_,_,_,_,_,_,_,_,_,_,_,_,_,_,_,_,_,_,_,_,_,_,_,_,_,_,_,_,_,_,_,_,_,_,_,_,_,_,_,_,_,_,_,_,_,_,_,_,_,_,_,_,_,_,_,_,_,_,_,_,_,_,_,_,_,_,_,_,_,_,_,_,_,_,_,_,_,_,_,_,_,_,_,_,_,_,_,_,_,_,_,_,_,_,⟨i + 1,_,_,by go_num,by omega,by omega,hp5⟩,rfl⟩,by simp [intOf];omega⟩)
          have n10:(O == 10) = false:=by simpa using o10
          have hp5:=ho.upAll
          clear ho h7 hslS hslT r0 r1 r2 r3 r4 r5 r6 r7 r8 r9 r10 r11 r12 r13
          go_wp2
          exact ⟨⟨_,.int .i64 ((i:Int) + 1),_,_,_,_,_,_,_,_,_,_,_,_,_,_,_,_,_,_,_,_,_,_,_,_,_,_,_,_,_,_,_,_,_,_,_,_,_,_,_,_,_,_,_,_,_,_,_,_,_,_,_,_,_,_,_,_,_,_,_,_,_,_,_,_,_,_,_,_,_,_,_,_,_,_,_,_,_,_,_,_,_,_,_,_,_,_,_,_,_,_,_,_,_,_,_,_,_,_,_,_,_,_,_,_,_,_,_,_,_,_,_,_,_,_,_,_,_,_,_,_,_,_,_,_,_,_,_,_,_,_,_,_,_,_,_,_,_,_,_,_,_,_,_,_,_,_,_,_,_,_,_,_,_,_,_,_,_,_,_,_,_,_,_,_,_,_,_,_,_,_,_,_,_,_,_,_,_,_,_,_,_,_,_,_,_,_,_,_,_,_,_,_,_,_,_,_,_,_,_,_,_,_,_,⟨i + 1,_,_,by go_num,by omega,by omega,hp5⟩,rfl⟩,by simp [intOf];omega⟩
        · rcases (by omega:¬ i < Nn∨(i < Nn∧¬ i < 2000)) with c1 | ⟨c1,c2⟩
          all_goals (
            first
            | have u1:¬ ((i:Int) < (Nn:Int)):=by omega
            | (have u1:(i:Int) < (Nn:Int):=by omega
               have u2:¬ ((i:Int) < 2000):=by omega)
            clear cc
            go_wp2
            go_loopw [12] (fun ii wr=>∃ j:Nat,ii = .int .i64 (j:Int)∧j≤4∧Po w wr bm (bm + 1) K i 4 B D) (fun ii _=>4 - (intOf ii).toNat)
            case atStart=>exact ⟨0,rfl,by omega,ho⟩
            case round =>
              clear ho
              obtain ⟨j,rfl,hj,ho⟩:=hrel
              by_cases cj:j < 4
              · have tj1:(j:Int) < 4:=by omega
                have tj0:(0:Int)≤(j:Int):=by omega
                have hK:=HN.out.2.2.2.1
                have hT1:=HN.out.2.2.2.2.1.grown ho.old
                have hQ1:=Fq.Tab.grown HN.out.2.2.2.2.2 ho.old
                have hsl:=(ho.opens j cj).2
                have m0:=(ho.ptr j cj).1
                obtain ⟨e0,f0⟩:wr.cell? ⟨bm + 1,j * 7,none⟩ = some (D j 0)∧wr.frozen? ⟨bm + 1,j * 7,none⟩ = false:=ho.cells j cj 0 (by decide)
                obtain ⟨e1,f1⟩:=ho.cells j cj 1 (by decide)
                obtain ⟨e2,f2⟩:=ho.cells j cj 2 (by decide)
                obtain ⟨e3,f3⟩:=ho.cells j cj 3 (by decide)
                obtain ⟨e4,f4⟩:=ho.cells j cj 4 (by decide)
                obtain ⟨e5,f5⟩:=ho.cells j cj 5 (by decide)
                obtain ⟨e6,f6⟩:=ho.cells j cj 6 (by decide)
                obtain ⟨R,hPs,hRs⟩:=aState_ wr (B j) (D j) K i hsl
                obtain ⟨R2,hPr,hBr,hRr⟩:=aRound_ 1 (by decide) (by decide) wr (B j) (D j) K i hK (by omega) hsl
                have HO:Hid (Po w wr bm (bm + 1) K i 4 B D):=ho
                clear ho hsl f0 f1 f2 f3 f4 f5 f6
                go_upto_region 60 with fail
                have jd:Kp wr wr.drew:=(Kp.refl _).drew
                refine wp_region_held_drew (S:=(fun w':World=>w'.cell? ⟨bm,j,none⟩ = some (.pointer (some ⟨B j,0,none⟩))∧w'.cell? ⟨bm + 1,j * 7,none⟩ = some (D j 0)∧w'.cell? ⟨bm + 1,j * 7 + 1,none⟩ = some (D j 1)∧w'.cell? ⟨bm + 1,j * 7 + 2,none⟩ = some (D j 2)∧w'.cell? ⟨bm + 1,j * 7 + 3,none⟩ = some (D j 3)∧w'.cell? ⟨bm + 1,j * 7 + 4,none⟩ = some (D j 4)∧w'.cell? ⟨bm + 1,j * 7 + 5,none⟩ = some (D j 5)∧w'.cell? ⟨bm + 1,j * 7 + 6,none⟩ = some (D j 6))) (by kernel_rfl) ⟨kkeep jd m0,kkeep jd e0,kkeep jd e1,kkeep jd e2,kkeep jd e3,kkeep jd e4,kkeep jd e5,kkeep jd e6⟩ (fun _=>?_)
                refine wpAnyH_take (i:=0) (v:=.int .i64 (j:Int)) rfl (by kernel_rfl) (by kernel_rfl) (by kernel_rfl) (fun _ _ _ h=>h) (Or.inl ⟨by rfl,fun w _hS=>rfl⟩) ⟨kkeep jd m0,kkeep jd e0,kkeep jd e1,kkeep jd e2,kkeep jd e3,kkeep jd e4,kkeep jd e5,kkeep jd e6⟩ ?_
                try simp only [Act.put,List.getElem_toArray,List.getElem_cons_zero,List.getElem_cons_succ,List.setIfInBounds_toArray,List.set_cons_zero,List.set_cons_succ]
                refine wpAnyH_take (i:=1) (v:=.pointer (some ⟨bm,j,none⟩)) rfl (by kernel_rfl) (by kernel_rfl) (by kernel_rfl) (fun _ _ _ h=>h) (Or.inl ⟨by rfl,fun w _hS=>(by simp [go_sem,tj0,tj1])⟩) ⟨kkeep jd m0,kkeep jd e0,kkeep jd e1,kkeep jd e2,kkeep jd e3,kkeep jd e4,kkeep jd e5,kkeep jd e6⟩ ?_
                try simp only [Act.put,List.getElem_toArray,List.getElem_cons_zero,List.getElem_cons_succ,List.setIfInBounds_toArray,List.set_cons_zero,List.set_cons_succ]
                refine wpAnyH_take (i:=2) (v:=.pointer (some ⟨B j,0,none⟩)) rfl (by kernel_rfl) (by kernel_rfl) (by kernel_rfl) (fun _ _ _ h=>h) (Or.inl ⟨by rfl,fun w _hS=>(by simp [go_sem,_hS.1])⟩) ⟨kkeep jd m0,kkeep jd e0,kkeep jd e1,kkeep jd e2,kkeep jd e3,kkeep jd e4,kkeep jd e5,kkeep jd e6⟩ ?_
                try simp only [Act.put,List.getElem_toArray,List.getElem_cons_zero,List.getElem_cons_succ,List.setIfInBounds_toArray,List.set_cons_zero,List.set_cons_succ]
                refine wpAnyH_take (i:=4) (v:=.int .i64 (j:Int)) rfl (by kernel_rfl) (by kernel_rfl) (by kernel_rfl) (fun _ _ _ h=>h) (Or.inl ⟨by rfl,fun w _hS=>rfl⟩) ⟨kkeep jd m0,kkeep jd e0,kkeep jd e1,kkeep jd e2,kkeep jd e3,kkeep jd e4,kkeep jd e5,kkeep jd e6⟩ ?_
                try simp only [Act.put,List.getElem_toArray,List.getElem_cons_zero,List.getElem_cons_succ,List.setIfInBounds_toArray,List.set_cons_zero,List.set_cons_succ]
                refine wpAnyH_take (i:=5) (v:=.pointer (some ⟨bm + 1,j * 7,none⟩)) rfl (by kernel_rfl) (by kernel_rfl) (by kernel_rfl) (fun _ _ _ h=>h) (Or.inl ⟨by rfl,fun w _hS=>(by simp [go_sem,tj0,tj1])⟩) ⟨kkeep jd m0,kkeep jd e0,kkeep jd e1,kkeep jd e2,kkeep jd e3,kkeep jd e4,kkeep jd e5,kkeep jd e6⟩ ?_
                try simp only [Act.put,List.getElem_toArray,List.getElem_cons_zero,List.getElem_cons_succ,List.setIfInBounds_toArray,List.set_cons_zero,List.set_cons_succ]
                refine wpAnyH_take (i:=6) (v:=.agg #[D j 0,D j 1,D j 2,D j 3,D j 4,D j 5,D j 6]) rfl (by kernel_rfl) (by kernel_rfl) (by kernel_rfl) (fun _ _ _ h=>h) (Or.inl ⟨by rfl,fun w _hS=>exL rfl _ rfl (load30a w (bm + 1) (j * 7) _ _ _ _ _ _ _ _hS.2.1 _hS.2.2.1 _hS.2.2.2.1 _hS.2.2.2.2.1 _hS.2.2.2.2.2.1 _hS.2.2.2.2.2.2.1 _hS.2.2.2.2.2.2.2)⟩) ⟨kkeep jd m0,kkeep jd e0,kkeep jd e1,kkeep jd e2,kkeep jd e3,kkeep jd e4,kkeep jd e5,kkeep jd e6⟩ ?_
                try simp only [Act.put,List.getElem_toArray,List.getElem_cons_zero,List.getElem_cons_succ,List.setIfInBounds_toArray,List.set_cons_zero,List.set_cons_succ]
                refine wpAnyH_ready (rs:=[3]) (by kernel_rfl) (by simp) ?_
                refine AllReadyH.cons rfl (fun K hK=>?_) AllReadyH.nil
                go_simp
                refine (hPs _ jd).mono ?_
                rintro e w' ⟨rfl,hw'⟩
                obtain rfl:=hw'.symm
                clear hw'
                go_wp2_with fail
                refine hK.out _ _ ⟨kkeep jd m0,kkeep jd e0,kkeep jd e1,kkeep jd e2,kkeep jd e3,kkeep jd e4,kkeep jd e5,kkeep jd e6⟩ (fun _=>?_)
                clear hK K
                try simp only [Act.put,List.getElem_toArray,List.getElem_cons_zero,List.getElem_cons_succ,List.setIfInBounds_toArray,List.set_cons_zero,List.set_cons_succ]
                refine wpAnyH_ready (rs:=[7]) (by kernel_rfl) (by simp) ?_
                refine AllReadyH.cons rfl (fun K hK=>?_) AllReadyH.nil
                go_simp
                refine (hRs _).mono ?_
                rintro e Wb ⟨rfl,gb⟩
                have jb:=jd.trans gb
                go_wp2_with fail
                refine hK.out _ _ ⟨kkeep jb m0,kkeep jb e0,kkeep jb e1,kkeep jb e2,kkeep jb e3,kkeep jb e4,kkeep jb e5,kkeep jb e6⟩ (fun _=>?_)
                clear hK K
                try simp only [Act.put,List.getElem_toArray,List.getElem_cons_zero,List.getElem_cons_succ,List.setIfInBounds_toArray,List.set_cons_zero,List.set_cons_succ]
                refine wpAnyH_take (i:=8) (v:=.bool false) rfl (by kernel_rfl) (by kernel_rfl) (by kernel_rfl) (fun _ _ _ h=>h) (Or.inl ⟨by rfl,fun w _hS=>(by simp [go_sem])⟩) ⟨kkeep jb m0,kkeep jb e0,kkeep jb e1,kkeep jb e2,kkeep jb e3,kkeep jb e4,kkeep jb e5,kkeep jb e6⟩ ?_
                try simp only [Act.put,List.getElem_toArray,List.getElem_cons_zero,List.getElem_cons_succ,List.setIfInBounds_toArray,List.set_cons_zero,List.set_cons_succ]
                refine wpAnyH_take (i:=9) (v:=.bool false) rfl (by kernel_rfl) (by kernel_rfl) (by kernel_rfl) (fun _ _ _ h=>h) (Or.inl ⟨by rfl,fun w _hS=>rfl⟩) ⟨kkeep jb m0,kkeep jb e0,kkeep jb e1,kkeep jb e2,kkeep jb e3,kkeep jb e4,kkeep jb e5,kkeep jb e6⟩ ?_
                try simp only [Act.put,List.getElem_toArray,List.getElem_cons_zero,List.getElem_cons_succ,List.setIfInBounds_toArray,List.set_cons_zero,List.set_cons_succ]
                refine wpAnyH_take (i:=10) (v:=.int .i64 (j:Int)) rfl (by kernel_rfl) (by kernel_rfl) (by kernel_rfl) (fun _ _ _ h=>h) (Or.inl ⟨by rfl,fun w _hS=>rfl⟩) ⟨kkeep jb m0,kkeep jb e0,kkeep jb e1,kkeep jb e2,kkeep jb e3,kkeep jb e4,kkeep jb e5,kkeep jb e6⟩ ?_
                try simp only [Act.put,List.getElem_toArray,List.getElem_cons_zero,List.getElem_cons_succ,List.setIfInBounds_toArray,List.set_cons_zero,List.set_cons_succ]
                refine wpAnyH_take (i:=11) (v:=.pointer (some ⟨bm,j,none⟩)) rfl (by kernel_rfl) (by kernel_rfl) (by kernel_rfl) (fun _ _ _ h=>h) (Or.inl ⟨by rfl,fun w _hS=>(by simp [go_sem,tj0,tj1])⟩) ⟨kkeep jb m0,kkeep jb e0,kkeep jb e1,kkeep jb e2,kkeep jb e3,kkeep jb e4,kkeep jb e5,kkeep jb e6⟩ ?_
                try simp only [Act.put,List.getElem_toArray,List.getElem_cons_zero,List.getElem_cons_succ,List.setIfInBounds_toArray,List.set_cons_zero,List.set_cons_succ]
                refine wpAnyH_take (i:=12) (v:=.pointer (some ⟨B j,0,none⟩)) rfl (by kernel_rfl) (by kernel_rfl) (by kernel_rfl) (fun _ _ _ h=>h) (Or.inl ⟨by rfl,fun w _hS=>(by simp [go_sem,_hS.1])⟩) ⟨kkeep jb m0,kkeep jb e0,kkeep jb e1,kkeep jb e2,kkeep jb e3,kkeep jb e4,kkeep jb e5,kkeep jb e6⟩ ?_
                try simp only [Act.put,List.getElem_toArray,List.getElem_cons_zero,List.getElem_cons_succ,List.setIfInBounds_toArray,List.set_cons_zero,List.set_cons_succ]
                refine wpAnyH_take (i:=15) (v:=.int .i64 (j:Int)) rfl (by kernel_rfl) (by kernel_rfl) (by kernel_rfl) (fun _ _ _ h=>h) (Or.inl ⟨by rfl,fun w _hS=>rfl⟩) ⟨kkeep jb m0,kkeep jb e0,kkeep jb e1,kkeep jb e2,kkeep jb e3,kkeep jb e4,kkeep jb e5,kkeep jb e6⟩ ?_
                try simp only [Act.put,List.getElem_toArray,List.getElem_cons_zero,List.getElem_cons_succ,List.setIfInBounds_toArray,List.set_cons_zero,List.set_cons_succ]
                refine wpAnyH_take (i:=16) (v:=.pointer (some ⟨bm + 1,j * 7,none⟩)) rfl (by kernel_rfl) (by kernel_rfl) (by kernel_rfl) (fun _ _ _ h=>h) (Or.inl ⟨by rfl,fun w _hS=>(by simp [go_sem,tj0,tj1])⟩) ⟨kkeep jb m0,kkeep jb e0,kkeep jb e1,kkeep jb e2,kkeep jb e3,kkeep jb e4,kkeep jb e5,kkeep jb e6⟩ ?_
                try simp only [Act.put,List.getElem_toArray,List.getElem_cons_zero,List.getElem_cons_succ,List.setIfInBounds_toArray,List.set_cons_zero,List.set_cons_succ]
                refine wpAnyH_take (i:=17) (v:=.agg #[D j 0,D j 1,D j 2,D j 3,D j 4,D j 5,D j 6]) rfl (by kernel_rfl) (by kernel_rfl) (by kernel_rfl) (fun _ _ _ h=>h) (Or.inl ⟨by rfl,fun w _hS=>exL rfl _ rfl (load30a w (bm + 1) (j * 7) _ _ _ _ _ _ _ _hS.2.1 _hS.2.2.1 _hS.2.2.2.1 _hS.2.2.2.2.1 _hS.2.2.2.2.2.1 _hS.2.2.2.2.2.2.1 _hS.2.2.2.2.2.2.2)⟩) ⟨kkeep jb m0,kkeep jb e0,kkeep jb e1,kkeep jb e2,kkeep jb e3,kkeep jb e4,kkeep jb e5,kkeep jb e6⟩ ?_
                try simp only [Act.put,List.getElem_toArray,List.getElem_cons_zero,List.getElem_cons_succ,List.setIfInBounds_toArray,List.set_cons_zero,List.set_cons_succ]
                refine wpAnyH_ready (rs:=[13]) (by kernel_rfl) (by simp) ?_
                refine AllReadyH.cons rfl (fun K hK=>?_) AllReadyH.nil
                rw [if_pos (by rfl)]
                go_simp
                refine (hPr _ jb (hT1.grown jb) (Fq.Tab.grown hQ1 jb)).mono ?_
                rintro e Wc ⟨rfl,gc⟩
                have jc:=jb.trans gc
                go_wp2_with fail
                refine hK.out _ _ ⟨kkeep jc m0,kkeep jc e0,kkeep jc e1,kkeep jc e2,kkeep jc e3,kkeep jc e4,kkeep jc e5,kkeep jc e6⟩ (fun _=>?_)
                clear hK K
                try simp only [Act.put,List.getElem_toArray,List.getElem_cons_zero,List.getElem_cons_succ,List.setIfInBounds_toArray,List.set_cons_zero,List.set_cons_succ]
                refine wpAnyH_ready (rs:=[14]) (by kernel_rfl) (by simp) ?_
                refine AllReadyH.cons rfl (fun K hK=>?_) AllReadyH.nil
                rw [if_pos (by rfl)]
                go_simp
                refine (hBr _).mono ?_
                rintro e w' ⟨rfl,hw'⟩
                obtain rfl:=hw'.symm
                clear hw'
                go_wp2_with fail
                refine hK.out _ _ ⟨kkeep jc m0,kkeep jc e0,kkeep jc e1,kkeep jc e2,kkeep jc e3,kkeep jc e4,kkeep jc e5,kkeep jc e6⟩ (fun _=>?_)
                clear hK K
                try simp only [Act.put,List.getElem_toArray,List.getElem_cons_zero,List.getElem_cons_succ,List.setIfInBounds_toArray,List.set_cons_zero,List.set_cons_succ]
                refine wpAnyH_ready (rs:=[18]) (by kernel_rfl) (by simp) ?_
                refine AllReadyH.cons rfl (fun K hK=>?_) AllReadyH.nil
                rw [if_pos (by rfl)]
                go_simp
                refine (hRr _ jc).mono ?_
                rintro e Wd ⟨rfl,gd⟩
                have je:=jc.trans gd
                go_wp2_with fail
                refine hK.out _ _ ⟨kkeep je m0,kkeep je e0,kkeep je e1,kkeep je e2,kkeep je e3,kkeep je e4,kkeep je e5,kkeep je e6⟩ (fun _=>?_)
                clear hK K
                try simp only [Act.put,List.getElem_toArray,List.getElem_cons_zero,List.getElem_cons_succ,List.setIfInBounds_toArray,List.set_cons_zero,List.set_cons_succ]
                refine wpAnyH_take (i:=19) (v:=.bool false) rfl (by kernel_rfl) (by kernel_rfl) (by kernel_rfl) (fun _ _ _ h=>h) (Or.inl ⟨by rfl,fun w _hS=>(by simp [go_sem])⟩) ⟨kkeep je m0,kkeep je e0,kkeep je e1,kkeep je e2,kkeep je e3,kkeep je e4,kkeep je e5,kkeep je e6⟩ ?_
                try simp only [Act.put,List.getElem_toArray,List.getElem_cons_zero,List.getElem_cons_succ,List.setIfInBounds_toArray,List.set_cons_zero,List.set_cons_succ]
                refine wpAnyH_take (i:=20) (v:=.bool false) rfl (by kernel_rfl) (by kernel_rfl) (by kernel_rfl) (fun _ _ _ h=>h) (Or.inl ⟨by rfl,fun w _hS=>rfl⟩) ⟨kkeep je m0,kkeep je e0,kkeep je e1,kkeep je e2,kkeep je e3,kkeep je e4,kkeep je e5,kkeep je e6⟩ ?_
                try simp only [Act.put,List.getElem_toArray,List.getElem_cons_zero,List.getElem_cons_succ,List.setIfInBounds_toArray,List.set_cons_zero,List.set_cons_succ]

                refine wpAnyH_done (by kernel_rfl) ?_ _
                have hp5:=HO.out.kp je
                go_wp2
                first
                | exact ⟨⟨j + 1,by go_num,by omega,hp5⟩,by simp [intOf];omega⟩
                | exact ⟨⟨_,.int .i64 ((j:Int) + 1),_,_,_,_,_,_,_,_,_,_,_,_,_,_,_,_,_,_,_,_,_,_,_,_,_,⟨j + 1,by go_num,by omega,hp5⟩,rfl⟩,by simp [intOf];omega⟩
              · have tj1:¬ ((j:Int) < 4):=by omega
                have hlv:=fun (W:World) (g:Kp w W)=>lives_ W (HN.out.2.2.2.2.1.grown g) (Fq.Tab.grown HN.out.2.2.2.2.2 g)
                have ko:=ho.old
                clear ho
                go_wp2_with (first | (go_at_call 6;refine (hlv _ ko).mono ?_;rintro e w5 ⟨rfl,g5⟩))
                exact bodyPost_ret (v:=.bool true) (by simp [results,Tryz.results3,go_sem]) rfl ⟨rfl,ko.trans g5⟩)
end Go.Proofs.YtfhcmabejagknaaGreatDoor
