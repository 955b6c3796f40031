import Derived.Test.YtoibnopiinclaaaGreatDoorKQB
import Derived.Test.YtoibnopiinclaaaGreatDoorKQBT
import Derived.Test.YtoibnopiinclaaaGreatDoorKXA0
import Derived.Test.YtoibnopiinclaaaGreatDoorKXY
set_option maxHeartbeats 2000000
set_option maxRecDepth 20000
namespace Go.Proofs.YtoibnopiinclaaaGreatDoor
open Go.RowKit
namespace Fq
theorem joinz_d (neg:Bool) (e:Int) (w:World):Calls Tryz.prog 109 #[.bool neg,.int .u64 0,.int .i64 e] w fun e w'=>e = .returned (.tuple #[.float .f64 0,.int .i64 0])∧w' = w:=by
  go_enter Tryz.func109,Tryz.ntmps109
  go_wp2
  exact bodyPost_ret (v:=.tuple #[.float .f64 0,.int .i64 0]) (by simp [results,Tryz.results109,go_sem] <;> simp only [*]) rfl ⟨rfl,rfl⟩

theorem join_d (neg:Bool) (o k:Nat) (ho:o % 2 = 1) (hx:o * 2 ^ k < 18446744073709551616) (e:Int) (he1:-9223372036854775808≤e) (he2:e < 9223372036854775808) (hj:jokD o (e + k) = true) (w:World) (hT:Tab w) :
    Calls Tryz.prog 109 #[.bool neg,.int .u64 ((o * 2 ^ k:Nat):Int),.int .i64 e] w fun e' w'=>e' = .returned (.tuple #[.float .f64 (wD neg (jrD o (e + k))),.int .i64 0])∧Grown w w':=by
  have htz:∀ w',Grown w w'→Calls Tryz.prog 51 #[.int .u64 ((o * 2 ^ k:Nat):Int)] w' fun e w''=>e = .returned (.int .i64 (k:Int))∧w'' = w':=fun w' g=>tz_ o k ho hx w' (hT.grown g)
  have hp:=Nat.two_pow_pos k
  have ho64:o < 18446744073709551616:=Nat.lt_of_le_of_lt (Nat.le_mul_of_pos_right o hp) hx
  have hln:=len64_ (o:Int) (by omega) (by omega)
  rw [Int.toNat_natCast] at hln
  obtain ⟨l0,l1,l2,l3⟩:=bitLen_bd o (by omega) ho64
  obtain ⟨N,hN⟩:∃ N:Int,N = ((Lib.bitLen o:Nat):Int):=⟨_,rfl⟩
  rw [← hN] at hln
  have hk:k < 64:=by
    have h64:(2:Nat) ^ 64 = 18446744073709551616:=by decide
    have h1:2 ^ k≤o * 2 ^ k:=Nat.le_mul_of_pos_left _ (by omega)
    exact (Nat.pow_lt_pow_iff_right (by decide:1 < 2)).1 (Nat.lt_of_le_of_lt h1 (by rw [h64];exact hx))
  have hpos:0 < o * 2 ^ k:=Nat.mul_pos (by omega) hp
  obtain ⟨x,hxx⟩:∃ x:Nat,x = o * 2 ^ k:=⟨_,rfl⟩
  have sA:(x:Int) / 2 ^ min k 64 = (o:Int):=by
    rw [Nat.min_eq_left (by omega),hxx]
    have:((o * 2 ^ k:Nat):Int) = (o:Int) * 2 ^ k:=by push_cast;rfl
    rw [this,Int.mul_ediv_cancel _ (by have:=Int.pow_pos (n:=2) (m:=k) (by decide);omega)]
  rw [← hxx] at htz hpos hx ⊢
  have a0:((x:Int) == 0) = false:=by simp;omega
  have N0:0 < N:=by omega
  obtain ⟨j1,j2,j3⟩:=(jokD_iff o (e + k)).1 hj
  obtain ⟨r1,r2,r3,r4⟩:=jrD_spec o (by omega) ho64 (e + k) hj
  obtain ⟨sh,hsh⟩:∃ sh:Nat,sh = jshD o (e + k):=⟨_,rfl⟩
  have hsh2:sh = min (53 - Lib.bitLen o) (e + k + 1074).toNat:=hsh
  have sB:min (53 - N) (e + (k:Int) + 1074) = (sh:Int):=by omega
  obtain ⟨R,hR⟩:∃ R:Nat,R = (e + k + 1074).toNat - sh:=⟨_,rfl⟩
  have sC:e + (k:Int) - (sh:Int) + 1074 = (R:Int):=by omega
  obtain ⟨M,hM⟩:∃ M:Nat,M = o * 2 ^ sh:=⟨_,rfl⟩
  rw [← hsh,← hM] at r4
  have hMi:(o:Int) * 2 ^ sh = (M:Int):=by rw [hM];push_cast;rfl
  have hjr:jrD o (e + k) = R * 4503599627370496 + M:=by unfold jrD;rw [← hsh,hR,hM]
  rw [hjr] at r1 r2 ⊢
  obtain ⟨B,hB⟩:∃ B:Int,B = 4503599627370496:=⟨_,rfl⟩
  have hful:∀ w:World,Calls Tryz.prog 85 #[.agg #[.int .i64 53,.int .i64 (-1074),.int .i64 971]] w fun e w'=>e = .returned (.int .i64 B)∧w' = w.alloc (.cells #[.int .i64 53,.int .i64 (-1074),.int .i64 971] 91):=by rw [hB];exact full_D
  obtain ⟨Z,hZ⟩:∃ Z:Nat,Z = R * 4503599627370496 + M:=⟨_,rfl⟩
  rw [← hZ] at r1 r2 ⊢
  have sD:wrap64 (wrap64 ((R:Int) * B) + wrap64 (IntKind.u64.wrap ((o:Int) * 2 ^ sh))) = (Z:Int):=by
    rw [hMi,hB,wrapU (x:=(M:Int)) (by omega) (by omega),wrapI (x:=(M:Int)) (by omega) (by omega),wrapI (x:=(R:Int) * 4503599627370496) (by omega) (by omega),wrapI (by omega) (by omega)]
    omega
  have hfm:=from_d Z (by omega)
  have hng:Op.unary .neg (.float .f64 (wD false Z)) = pure (.float .f64 (wD true Z)):=by
    show pure (Value.float .f64 (Op.negFloat .f64 (wD false Z))) = _
    rw [negD false Z (by omega)];rfl
  have a1:¬ (1024≤e):=by omega
  have a2:wrap64 (e + (k:Int)) = e + k:=wrapI (by omega) (by omega)
  have a3:¬ (53 < N):=by omega
  have a4:¬ (e + (k:Int) < -1074):=by omega
  have a5:wrap64 (e + (k:Int) + N) = e + k + N:=wrapI (by omega) (by omega)
  have a6:¬ (1024 < e + (k:Int) + N):=by omega
  clear r1 r2 r3 r4 l0 l1 l2 l3 j1 j2 j3 hN hk hpos hx ho ho64 hp hj he1 he2 hxx hT hsh hsh2 hR hM hMi hjr hB
  obtain ⟨V0,hV0⟩:∃ V:Nat,V = wD false Z:=⟨_,rfl⟩
  obtain ⟨V1,hV1⟩:∃ V:Nat,V = wD true Z:=⟨_,rfl⟩
  rw [← hV0] at hfm hng
  rw [← hV1] at hng
  have hV:∃ V:Nat,V = wD neg Z:=⟨_,rfl⟩
  obtain ⟨V,hV⟩:=hV
  rw [← hV]
  have hVc:V = if neg then V1 else V0:=by rw [hV,hV0,hV1];cases neg <;> rfl
  clear hV hV0 hV1 hZ
  cases neg
  · have hVd:V = V0:=hVc
    subst hVd
    clear hVc
    go_enter Tryz.func109,Tryz.ntmps109
    go_wp2_with (first | (go_at_call 81;refine (lay_d _).mono ?_;rintro e w' ⟨rfl,rfl⟩) | (go_at_call 51;refine (htz _ ?_).mono ?_;(exact (by repeat (with_reducible (first | assumption | exact Grown.refl _ | apply Grown.drew | apply Grown.alloc | apply gdrewN | (refine gtrans ?_ (by assumption))))));rintro e w' ⟨rfl,rfl⟩) | (go_at_call 107;refine (hln _).mono ?_;rintro e w' ⟨rfl,rfl⟩))
    refine wp_region_grow (by kernel_rfl) (by kernel_rfl) (fun ι _ G hG hall=>?_)
    have c0:∀ n,(G n).cell? ⟨w.heap.size + 1,0,none⟩ = some (.int .i64 53):=fun n=>gkeep (hG n) (by simp [go_sem])
    have c1:∀ n,(G n).cell? ⟨w.heap.size + 1,1,none⟩ = some (.int .i64 (-1074)):=fun n=>gkeep (hG n) (by simp [go_sem])
    have c2:∀ n,(G n).cell? ⟨w.heap.size + 1,2,none⟩ = some (.int .i64 971):=fun n=>gkeep (hG n) (by simp [go_sem])
    repeat (go_big_quiet_step (first | (go_at_call 85;exact (hful _).mono (fun e w' h=>⟨h.1,hall _ (by rw [h.2];exact (hG _).alloc _ _)⟩)) | (go_at_call 113;exact (hfm _).mono (fun e w' h=>⟨h.1,hall _ (by rw [h.2];exact hG _)⟩))))
    refine wpQuiet_nil ?_
    rintro _ ⟨nq,rfl⟩
    have gq:=hG nq
    clear c0 c1 c2 hall
    go_wp2
    exact bodyPost_ret (v:=.tuple #[.float .f64 V,.int .i64 0]) (by simp [results,Tryz.results109,go_sem] <;> simp only [*]) rfl ⟨rfl,(by repeat (with_reducible (first | assumption | exact Grown.refl _ | apply Grown.drew | apply Grown.alloc | apply gdrewN | (refine gtrans ?_ (by assumption)))))⟩
  · have hVd:V = V1:=hVc
    subst hVd
    clear hVc
    go_enter Tryz.func109,Tryz.ntmps109
    go_wp2_with (first | (go_at_call 81;refine (lay_d _).mono ?_;rintro e w' ⟨rfl,rfl⟩) | (go_at_call 51;refine (htz _ ?_).mono ?_;(exact (by repeat (with_reducible (first | assumption | exact Grown.refl _ | apply Grown.drew | apply Grown.alloc | apply gdrewN | (refine gtrans ?_ (by assumption))))));rintro e w' ⟨rfl,rfl⟩) | (go_at_call 107;refine (hln _).mono ?_;rintro e w' ⟨rfl,rfl⟩))
    refine wp_region_grow (by kernel_rfl) (by kernel_rfl) (fun ι _ G hG hall=>?_)
    have c0:∀ n,(G n).cell? ⟨w.heap.size + 1,0,none⟩ = some (.int .i64 53):=fun n=>gkeep (hG n) (by simp [go_sem])
    have c1:∀ n,(G n).cell? ⟨w.heap.size + 1,1,none⟩ = some (.int .i64 (-1074)):=fun n=>gkeep (hG n) (by simp [go_sem])
    have c2:∀ n,(G n).cell? ⟨w.heap.size + 1,2,none⟩ = some (.int .i64 971):=fun n=>gkeep (hG n) (by simp [go_sem])
    repeat (go_big_quiet_step (first | (go_at_call 85;exact (hful _).mono (fun e w' h=>⟨h.1,hall _ (by rw [h.2];exact (hG _).alloc _ _)⟩)) | (go_at_call 113;exact (hfm _).mono (fun e w' h=>⟨h.1,hall _ (by rw [h.2];exact hG _)⟩))))
    refine wpQuiet_nil ?_
    rintro _ ⟨nq,rfl⟩
    have gq:=hG nq
    clear c0 c1 c2 hall
    go_wp2
    exact bodyPost_ret (v:=.tuple #[.float .f64 V,.int .i64 0]) (by simp [results,Tryz.results109,go_sem] <;> simp only [*]) rfl ⟨rfl,(by repeat (with_reducible (first | assumption | exact Grown.refl _ | apply Grown.drew | apply Grown.alloc | apply gdrewN | (refine gtrans ?_ (by assumption)))))⟩
theorem joinx_d (neg:Bool) (o k:Nat) (ho:o % 2 = 1) (hx:o * 2 ^ k < 18446744073709551616) (e:Int) (he1:-9223372036854775808≤e) (he2:e < 9223372036854775808) (hj:jokD o (e + k) = false) (w:World) (hT:Tab w) :
    Calls Tryz.prog 109 #[.bool neg,.int .u64 ((o * 2 ^ k:Nat):Int),.int .i64 e] w fun e' w'=>e' = .returned (.tuple #[.float .f64 0,.int .i64 1])∧Grown w w':=by
  have htz:∀ w',Grown w w'→Calls Tryz.prog 51 #[.int .u64 ((o * 2 ^ k:Nat):Int)] w' fun e w''=>e = .returned (.int .i64 (k:Int))∧w'' = w':=fun w' g=>tz_ o k ho hx w' (hT.grown g)
  have hp:=Nat.two_pow_pos k
  have ho64:o < 18446744073709551616:=Nat.lt_of_le_of_lt (Nat.le_mul_of_pos_right o hp) hx
  have hln:=len64_ (o:Int) (by omega) (by omega)
  rw [Int.toNat_natCast] at hln
  obtain ⟨l0,l1,l2,l3⟩:=bitLen_bd o (by omega) ho64
  obtain ⟨N,hN⟩:∃ N:Int,N = ((Lib.bitLen o:Nat):Int):=⟨_,rfl⟩
  rw [← hN] at hln
  have hk:k < 64:=by
    have h64:(2:Nat) ^ 64 = 18446744073709551616:=by decide
    have h1:2 ^ k≤o * 2 ^ k:=Nat.le_mul_of_pos_left _ (by omega)
    exact (Nat.pow_lt_pow_iff_right (by decide:1 < 2)).1 (Nat.lt_of_le_of_lt h1 (by rw [h64];exact hx))
  have hpos:0 < o * 2 ^ k:=Nat.mul_pos (by omega) hp
  obtain ⟨x,hxx⟩:∃ x:Nat,x = o * 2 ^ k:=⟨_,rfl⟩
  have sA:(x:Int) / 2 ^ min k 64 = (o:Int):=by
    rw [Nat.min_eq_left (by omega),hxx]
    have:((o * 2 ^ k:Nat):Int) = (o:Int) * 2 ^ k:=by push_cast;rfl
    rw [this,Int.mul_ediv_cancel _ (by have:=Int.pow_pos (n:=2) (m:=k) (by decide);omega)]
  rw [← hxx] at htz hpos hx ⊢
  have a0:((x:Int) == 0) = false:=by simp;omega
  have N0:0 < N:=by omega
  have hjn:¬ (Lib.bitLen o≤53∧-1074≤e + k∧e + k + Lib.bitLen o≤1024):=fun hh=>by
    have:=(jokD_iff o (e + k)).2 hh
    rw [this] at hj;cases hj
  by_cases a1:1024≤e
  · clear l0 l1 l2 l3 hN hk hpos hx ho ho64 hp hj he1 he2 hxx hT hjn
    go_enter Tryz.func109,Tryz.ntmps109
    go_wp2_with (first | (go_at_call 81;refine (lay_d _).mono ?_;rintro e w' ⟨rfl,rfl⟩) | (go_at_call 51;refine (htz _ ?_).mono ?_;(exact (by repeat (with_reducible (first | assumption | exact Grown.refl _ | apply Grown.drew | apply Grown.alloc | apply gdrewN | (refine gtrans ?_ (by assumption))))));rintro e w' ⟨rfl,rfl⟩) | (go_at_call 107;refine (hln _).mono ?_;rintro e w' ⟨rfl,rfl⟩))
    exact bodyPost_ret (v:=.tuple #[.float .f64 0,.int .i64 1]) (by simp [results,Tryz.results109,go_sem] <;> simp only [*]) rfl ⟨rfl,(by repeat (with_reducible (first | assumption | exact Grown.refl _ | apply Grown.drew | apply Grown.alloc | apply gdrewN | (refine gtrans ?_ (by assumption)))))⟩
  have a2:wrap64 (e + (k:Int)) = e + k:=wrapI (by omega) (by omega)
  by_cases a3:53 < N
  · clear l0 l1 l2 l3 hN hk hpos hx ho ho64 hp hj he1 he2 hxx hT hjn
    go_enter Tryz.func109,Tryz.ntmps109
    go_wp2_with (first | (go_at_call 81;refine (lay_d _).mono ?_;rintro e w' ⟨rfl,rfl⟩) | (go_at_call 51;refine (htz _ ?_).mono ?_;(exact (by repeat (with_reducible (first | assumption | exact Grown.refl _ | apply Grown.drew | apply Grown.alloc | apply gdrewN | (refine gtrans ?_ (by assumption))))));rintro e w' ⟨rfl,rfl⟩) | (go_at_call 107;refine (hln _).mono ?_;rintro e w' ⟨rfl,rfl⟩))
    exact bodyPost_ret (v:=.tuple #[.float .f64 0,.int .i64 1]) (by simp [results,Tryz.results109,go_sem] <;> simp only [*]) rfl ⟨rfl,(by repeat (with_reducible (first | assumption | exact Grown.refl _ | apply Grown.drew | apply Grown.alloc | apply gdrewN | (refine gtrans ?_ (by assumption)))))⟩
  by_cases a4:e + (k:Int) < -1074
  · clear l0 l1 l2 l3 hN hk hpos hx ho ho64 hp hj he1 he2 hxx hT hjn
    go_enter Tryz.func109,Tryz.ntmps109
    go_wp2_with (first | (go_at_call 81;refine (lay_d _).mono ?_;rintro e w' ⟨rfl,rfl⟩) | (go_at_call 51;refine (htz _ ?_).mono ?_;(exact (by repeat (with_reducible (first | assumption | exact Grown.refl _ | apply Grown.drew | apply Grown.alloc | apply gdrewN | (refine gtrans ?_ (by assumption))))));rintro e w' ⟨rfl,rfl⟩) | (go_at_call 107;refine (hln _).mono ?_;rintro e w' ⟨rfl,rfl⟩))
    exact bodyPost_ret (v:=.tuple #[.float .f64 0,.int .i64 1]) (by simp [results,Tryz.results109,go_sem] <;> simp only [*]) rfl ⟨rfl,(by repeat (with_reducible (first | assumption | exact Grown.refl _ | apply Grown.drew | apply Grown.alloc | apply gdrewN | (refine gtrans ?_ (by assumption)))))⟩
  have a5:wrap64 (e + (k:Int) + N) = e + k + N:=wrapI (by omega) (by omega)
  have a6:1024 < e + (k:Int) + N:=by omega
  clear l0 l1 l2 l3 hN hk hpos hx ho ho64 hp hj he1 he2 hxx hT hjn
  go_enter Tryz.func109,Tryz.ntmps109
  go_wp2_with (first | (go_at_call 81;refine (lay_d _).mono ?_;rintro e w' ⟨rfl,rfl⟩) | (go_at_call 51;refine (htz _ ?_).mono ?_;(exact (by repeat (with_reducible (first | assumption | exact Grown.refl _ | apply Grown.drew | apply Grown.alloc | apply gdrewN | (refine gtrans ?_ (by assumption))))));rintro e w' ⟨rfl,rfl⟩) | (go_at_call 107;refine (hln _).mono ?_;rintro e w' ⟨rfl,rfl⟩))
  exact bodyPost_ret (v:=.tuple #[.float .f64 0,.int .i64 1]) (by simp [results,Tryz.results109,go_sem] <;> simp only [*]) rfl ⟨rfl,(by repeat (with_reducible (first | assumption | exact Grown.refl _ | apply Grown.drew | apply Grown.alloc | apply gdrewN | (refine gtrans ?_ (by assumption)))))⟩
end Fq
theorem trim_ (p:Option Addr) (c:Nat) (xs:List Int) (w:World) (hx:Arr w p xs) (lx:xs.length≤1099511627776) (hc:xs.length≤c) :
    Calls Tryz.prog 86 #[.slice p xs.length c] w fun e w'=>e = .returned (.slice p (tl xs) c)∧w' = w:=by
  obtain ⟨N,hN⟩:∃ N,N = xs.length:=⟨_,rfl⟩
  rw [← hN] at lx hc ⊢
  have HX:Hid (Arr w p xs):=hx
  have HN:Hid (N = xs.length):=hN
  obtain ⟨T,hT⟩:∃ T,T = tl xs:=⟨_,rfl⟩
  rw [← hT]
  have HT:Hid (tlAux xs N = T):=by rw [hT,hN];exact rfl
  have hT2:T≤N:=by rw [hT,hN];exact tl_le xs
  clear hN hx hT
  go_enter Tryz.func86,Tryz.ntmps86
  go_wp2
  go_loop [3] (fun i=>∃ k:Nat,i = .int .i64 k∧k≤N∧tlAux xs k = T) (fun i=>(intOf i).toNat)
  case atStart=>exact ⟨N,rfl,Nat.le_refl _,HT.out⟩
  case round =>
    obtain ⟨k,rfl,hk,ht⟩:=hrel
    have hN:=HN.out
    rcases k with _ | k
    · have hT0:T = 0:=by rw [← ht];rfl
      subst hT0
      clear hN HN HX HT ht hk
      go_wp2
      exact bodyPost_ret (v:=.slice p 0 c) (by simp [results,Tryz.results86,go_sem] <;> simp only [*]) rfl ⟨rfl,rfl⟩
    · obtain ⟨b,off,rfl,hc'⟩:=HX.out.at (k:=k) (by omega)
      have e1:=hc' k (by omega)
      have f1:(((k + 1:Nat):Int) - 1) = (k:Int):=by omega
      by_cases cz:xs.getD k 0 = 0
      · rw [tlAux_zero xs k cz] at ht
        rw [cz] at e1
        clear hN HN HX HT hc'
        go_wp2
        exact ⟨⟨k,by go_num,by omega,ht⟩,by simp [intOf]⟩
      · rw [tlAux_nz xs k cz] at ht
        subst ht
        obtain ⟨X,hX⟩:∃ X,X = xs.getD k 0:=⟨_,rfl⟩
        rw [← hX] at e1 cz
        have t1:(X == 0) = false:=by simp [cz]
        clear hN HN HX HT hc' hX cz
        go_wp2
        exact bodyPost_ret (v:=.slice (some ⟨b,off,none⟩) (k + 1) c) (by simp [results,Tryz.results86,go_sem] <;> simp only [*]) rfl ⟨rfl,rfl⟩
theorem words_ (p:Option Addr) (c:Nat) (xs:List Int) (w:World) (hx:Arr w p xs) (lx:xs.length≤1099511627776) :
    Calls Tryz.prog 98 #[.slice p xs.length c] w fun e w'=>e = .returned (.int .i64 (tl xs:Int))∧w' = w:=by
  obtain ⟨N,hN⟩:∃ N,N = xs.length:=⟨_,rfl⟩
  rw [← hN] at lx ⊢
  have HX:Hid (Arr w p xs):=hx
  have HN:Hid (N = xs.length):=hN
  obtain ⟨T,hT⟩:∃ T,T = tl xs:=⟨_,rfl⟩
  rw [← hT]
  have HT:Hid (tlAux xs N = T):=by rw [hT,hN];exact rfl
  have hT2:T≤N:=by rw [hT,hN];exact tl_le xs
  clear hN hx hT
  go_enter Tryz.func98,Tryz.ntmps98
  go_wp2
  go_loop [3] (fun i=>∃ k:Nat,i = .int .i64 k∧k≤N∧tlAux xs k = T) (fun i=>(intOf i).toNat)
  case atStart=>exact ⟨N,rfl,Nat.le_refl _,HT.out⟩
  case round =>
    obtain ⟨k,rfl,hk,ht⟩:=hrel
    have hN:=HN.out
    rcases k with _ | k
    · have hT0:T = 0:=by rw [← ht];rfl
      subst hT0
      clear hN HN HX HT ht hk
      go_wp2
      exact bodyPost_ret (v:=.int .i64 0) (by simp [results,Tryz.results98,go_sem] <;> simp only [*]) rfl ⟨rfl,rfl⟩
    · obtain ⟨b,off,rfl,hc'⟩:=HX.out.at (k:=k) (by omega)
      have e1:=hc' k (by omega)
      have f1:(((k + 1:Nat):Int) - 1) = (k:Int):=by omega
      by_cases cz:xs.getD k 0 = 0
      · rw [tlAux_zero xs k cz] at ht
        rw [cz] at e1
        clear hN HN HX HT hc'
        go_wp2
        exact ⟨⟨k,by go_num,by omega,ht⟩,by simp [intOf]⟩
      · rw [tlAux_nz xs k cz] at ht
        subst ht
        obtain ⟨X,hX⟩:∃ X,X = xs.getD k 0:=⟨_,rfl⟩
        rw [← hX] at e1 cz
        have t1:(X == 0) = false:=by simp [cz]
        clear hN HN HX HT hc' hX cz
        go_wp2
        exact bodyPost_ret (v:=.int .i64 ((k + 1:Nat):Int)) (by simp [results,Tryz.results98,go_sem] <;> simp only [*]) rfl ⟨rfl,rfl⟩
theorem add32_ (x y c:Int) (hx:0≤x∧x < 4294967296) (hy:0≤y∧y < 4294967296) (hc:0≤c∧c < 4294967296) (w:World) :
    Calls Tryz.prog 117 #[.int .u32 x,.int .u32 y,.int .u32 c] w fun e w'=>e = .returned (.tuple #[.int .u32 ((x + y + c) % 4294967296),.int .u32 ((x + y + c) / 4294967296)])∧w' = w:=by
  have f1:IntKind.u64.wrap x = x:=by rw [IntKind.wrap_u64];omega
  have f2:IntKind.u64.wrap y = y:=by rw [IntKind.wrap_u64];omega
  have f3:IntKind.u64.wrap c = c:=by rw [IntKind.wrap_u64];omega
  have f4:IntKind.u64.wrap (x + y) = x + y:=by rw [IntKind.wrap_u64];omega
  have f5:IntKind.u64.wrap (x + y + c) = x + y + c:=by rw [IntKind.wrap_u64];omega
  have f6:IntKind.u32.wrap (x + y + c) = (x + y + c) % 4294967296:=by rw [IntKind.wrap_u32]
  have f7:IntKind.u32.wrap ((x + y + c) / 4294967296) = (x + y + c) / 4294967296:=by rw [IntKind.wrap_u32];omega
  clear hx hy hc
  go_enter Tryz.func117,Tryz.ntmps117
  go_wp2
  exact bodyPost_ret (v:=.tuple #[.int .u32 ((x + y + c) % 4294967296),.int .u32 ((x + y + c) / 4294967296)]) (by simp [results,Tryz.results117,go_sem] <;> simp only [*]) rfl ⟨rfl,rfl⟩
theorem tooLong_ (p:Option Addr) (m c:Nat) (w:World):Calls Tryz.prog 87 #[.slice p m c] w fun e w'=>e = .returned (.bool (decide (16384 < m)))∧w' = w:=by
  go_enter Tryz.func87,Tryz.ntmps87
  go_wp2
  have h:decide ((16384:Int) < (m:Int)) = decide (16384 < m):=by by_cases d:16384 < m <;> simp [d] <;> omega
  exact bodyPost_ret (v:=.bool (decide (16384 < m))) (by simp [results,Tryz.results87,go_sem] <;> omega) rfl ⟨rfl,rfl⟩
theorem unlessLong_ (p:Option Addr) (m c:Nat) (w:World):Calls Tryz.prog 90 #[.slice p m c] w fun e w'=>e = .returned (if 16384 < m then .tuple #[.slice none 0 0,.int .i64 2] else .tuple #[.slice p m c,.int .i64 0])∧w' = w:=by
  have h:=tooLong_ p m c
  by_cases d:16384 < m
  · rw [decide_eq_true d] at h
    rw [if_pos d]
    clear d
    go_enter Tryz.func90,Tryz.ntmps90
    go_wp2_with (first | (go_at_call 87;refine (h _).mono ?_;rintro e w' ⟨rfl,rfl⟩))
    exact bodyPost_ret (v:=.tuple #[.slice none 0 0,.int .i64 2]) (by simp [results,Tryz.results90,go_sem] <;> simp only [*]) rfl ⟨rfl,rfl⟩
  · rw [decide_eq_false d] at h
    rw [if_neg d]
    clear d
    go_enter Tryz.func90,Tryz.ntmps90
    go_wp2_with (first | (go_at_call 87;refine (h _).mono ?_;rintro e w' ⟨rfl,rfl⟩))
    exact bodyPost_ret (v:=.tuple #[.slice p m c,.int .i64 0]) (by simp [results,Tryz.results90,go_sem] <;> simp only [*]) rfl ⟨rfl,rfl⟩

structure Rs where
  l1:List Int
  l2:List Int
  W:Int
  Z:Int
  B:Bool
  E:Int
structure Out (w:World) (base:Nat) (r:Rs) (p1:Option Addr) (c1:Nat) (p2:Option Addr) (c2:Nat):Prop where
  o1:Own w base (.slice p1 r.l1.length c1) r.l1
  o2:Own w base (.slice p2 r.l2.length c2) r.l2
  ne:∀ g,p1 = some ⟨g,0,none⟩→p2≠some ⟨g,0,none⟩
theorem Out.grown {w w':World} {base:Nat} {r:Rs} {p1 p2:Option Addr} {c1 c2:Nat} (h:Out w base r p1 c1 p2 c2) (k:Kp w w'):Out w' base r p1 c1 p2 c2:=⟨h.o1.kp k,h.o2.kp k,h.ne⟩
theorem Rw.all {w:World} {g n:Nat} {xs:List Int} (h:Rw w g n xs) (hn:xs.length = n):Arr w (some ⟨g,0,none⟩) xs:=by
  refine Or.inr ⟨g,0,rfl,fun j hj=>?_⟩
  rw [Nat.zero_add]
  exact World.rowIs.cell h (by omega)
theorem Rw.kb {w w':World} {a g n:Nat} {xs:List Int} (h:Rw w g n xs) (k:Kb a w w') (hne:g≠a):Rw w' g n xs:=World.rowIs.of_block h (k.2.2.2.2 g (World.rowIs.lt h) hne)
theorem Own.kb {w w':World} {a base:Nat} {v:Value} {xs:List Int} (h:Own w base v xs) (k:Kb a w w') (hne:∀ g,v.ownBlock = some g→g≠a):Own w' base v xs:=by
  refine ⟨h.1, ?_⟩
  rcases h.2 with h' | ⟨g,cap,cur,h1,h2,h3,h4,h5,h6,h7⟩
  · exact Or.inl h'
  · have hlt:g < w.heap.size:=by
      by_cases c:g < w.heap.size
      · exact c
      · rw [Array.getElem?_eq_none (by simpa using c)] at h3;cases h3
    exact Or.inr ⟨g,cap,cur,h1,h2,by rw [k.2.2.2.2 g hlt (hne g (by rw [h1];rfl))];exact h3,h4,h5,h6,h7⟩
structure Cs (w:World) (b:Nat) (r:Rs) (p1:Option Addr) (c1:Nat) (p2:Option Addr) (c2:Nat):Prop where
  c0:w.cell? ⟨b,0,none⟩ = some (.slice p1 r.l1.length c1)
  c1:w.cell? ⟨b,1,none⟩ = some (.slice p2 r.l2.length c2)
  c2:w.cell? ⟨b,2,none⟩ = some (.int .u64 r.W)
  c3:w.cell? ⟨b,3,none⟩ = some (.int .i64 r.Z)
  c4:w.cell? ⟨b,4,none⟩ = some (.bool r.B)
  c5:w.cell? ⟨b,5,none⟩ = some (.int .i64 r.E)
theorem Cs.grown {w w':World} {b:Nat} {r:Rs} {p1 p2:Option Addr} {c1 c2:Nat} (h:Cs w b r p1 c1 p2 c2) (k:Kp w w'):Cs w' b r p1 c1 p2 c2:=⟨kkeep k h.c0,kkeep k h.c1,kkeep k h.c2,kkeep k h.c3,kkeep k h.c4,kkeep k h.c5⟩
theorem Cs.kb {w w':World} {a b:Nat} {r:Rs} {p1 p2:Option Addr} {c1 c2:Nat} (h:Cs w b r p1 c1 p2 c2) (k:Kb a w w') (hne:b≠a):Cs w' b r p1 c1 p2 c2:=⟨k.arr hne h.c0,k.arr hne h.c1,k.arr hne h.c2,k.arr hne h.c3,k.arr hne h.c4,k.arr hne h.c5⟩
theorem Cs.six {w:World} {b:Nat} {r:Rs} {p1 p2:Option Addr} {c1 c2:Nat} (h:Cs w b r p1 c1 p2 c2):w.cell? ⟨b,0,none⟩ = some (.slice p1 r.l1.length c1)∧w.cell? ⟨b,1,none⟩ = some (.slice p2 r.l2.length c2)∧w.cell? ⟨b,2,none⟩ = some (.int .u64 r.W)∧w.cell? ⟨b,3,none⟩ = some (.int .i64 r.Z)∧w.cell? ⟨b,4,none⟩ = some (.bool r.B)∧w.cell? ⟨b,5,none⟩ = some (.int .i64 r.E):=⟨h.c0,h.c1,h.c2,h.c3,h.c4,h.c5⟩
def Bd (lo hi:Nat) (p1 p2:Option Addr):Prop:=∀ g,p1 = some ⟨g,0,none⟩∨p2 = some ⟨g,0,none⟩→lo≤g∧g < hi
theorem own_p {p:Option Addr} {n c g:Nat} {w:World} {base:Nat} {xs:List Int} (h:Own w base (.slice p n c) xs) (hg:(Value.slice p n c).ownBlock = some g):p = some ⟨g,0,none⟩:=by
  rcases h.2 with ⟨h',_⟩ | ⟨g',cap,cur,h1,_⟩
  · rw [h'] at hg;cases hg
  · cases h1;cases hg;rfl
theorem Out.kb {w w':World} {a base lo hi:Nat} {r:Rs} {p1 p2:Option Addr} {c1 c2:Nat} (h:Out w base r p1 c1 p2 c2) (k:Kb a w w') (b:Bd lo hi p1 p2) (ha:a < lo∨hi≤a):Out w' base r p1 c1 p2 c2 :=
  ⟨h.o1.kb k (fun g hg=>by have:=b g (Or.inl (own_p h.o1 hg));omega),h.o2.kb k (fun g hg=>by have:=b g (Or.inr (own_p h.o2 hg));omega),h.ne⟩
def Ls (w:World) (v:Value) (L:List Int):Prop:=∃ p c,v = .slice p L.length c∧Arr w p L∧L.length≤c
theorem Ls.kp {w w':World} {v:Value} {L:List Int} (h:Ls w v L) (k:Kp w w'):Ls w' v L:=by
  obtain ⟨p,c,e,hA,hc⟩:=h
  exact ⟨p,c,e,hA.grown k,hc⟩
theorem Own.ls {w:World} {base:Nat} {v:Value} {L:List Int} (h:Own w base v L):Ls w v L:=by
  obtain ⟨p,c,e,hA,hc⟩:=h.arr
  exact ⟨p,c,e,hA,hc⟩
theorem dlen (a K:Nat) (h:blen a≤32 * K):(dig a).length≤K:=by
  have h1:=(blen_le_iff a (32 * K)).1 h
  rw [← pow32] at h1
  by_cases c:(dig a).length≤K
  · exact c
  · exfalso
    have:=len32_lt a K (by unfold len32;omega)
    omega
end Go.Proofs.YtoibnopiinclaaaGreatDoor
