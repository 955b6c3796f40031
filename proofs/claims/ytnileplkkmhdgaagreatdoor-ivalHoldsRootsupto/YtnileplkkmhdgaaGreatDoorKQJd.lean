import Derived.Test.YtnileplkkmhdgaaGreatDoorKQB
import Derived.Test.YtnileplkkmhdgaaGreatDoorKQBT
import Derived.Test.YtnileplkkmhdgaaGreatDoorKXQF
import Derived.Test.YtnileplkkmhdgaaGreatDoorKXQU
set_option maxHeartbeats 2000000
set_option maxRecDepth 20000
namespace Go.Proofs.YtnileplkkmhdgaaGreatDoor
open Go.RowKit
namespace Fq
theorem joinz_d (neg:Bool) (e:Int) (w:World):Calls Tryz.prog 143 #[.bool neg,.int .u64 0,.int .i64 e] w fun e w'=>e = .returned (.tuple #[.float .f64 0,.int .i64 0])∧w' = w:=by
  go_enter Tryz.func143,Tryz.ntmps143
  go_wp2
  exact bodyPost_ret (v:=.tuple #[.float .f64 0,.int .i64 0]) (by simp [results,Tryz.results143,go_sem] <;> simp only [*]) rfl ⟨rfl,rfl⟩

theorem join_d (neg:Bool) (o k:Nat) (ho:o % 2 = 1) (hx:o * 2 ^ k < 18446744073709551616) (e:Int) (he1:-9223372036854775808≤e) (he2:e < 9223372036854775808) (hj:jokD o (e + k) = true) (w:World) (hT:Tab w) :
    Calls Tryz.prog 143 #[.bool neg,.int .u64 ((o * 2 ^ k:Nat):Int),.int .i64 e] w fun e' w'=>e' = .returned (.tuple #[.float .f64 (wD neg (jrD o (e + k))),.int .i64 0])∧Grown w w':=by
  have htz:∀ w',Grown w w'→Calls Tryz.prog 92 #[.int .u64 ((o * 2 ^ k:Nat):Int)] w' fun e w''=>e = .returned (.int .i64 (k:Int))∧w'' = w':=fun w' g=>tz_ o k ho hx w' (hT.grown g)
  have hp:=Nat.two_pow_pos k
  have ho64:o < 18446744073709551616:=Nat.lt_of_le_of_lt (Nat.le_mul_of_pos_right o hp) hx
  have hln:=len64_ (o:Int) (by omega) (by omega)
  rw [Int.toNat_natCast] at hln
  obtain ⟨l0,l1,l2,l3⟩:=bitLen_bd o (by omega) ho64
  obtain ⟨N,hN⟩:∃ N:Int,N = ((Lib.bitLen o:Nat):Int):=⟨_,rfl⟩
  rw [← hN] at hln
  have hk:k < 64:=by
    have h64:(2:Nat) ^ 64 = 18446744073709551616:=by decide
    have h1:2 ^ k≤o * 2 ^ k:=Nat.le_mul_of_pos_left _ (by omega)
    exact (Nat.pow_lt_pow_iff_right (by decide:1 < 2)).1 (Nat.lt_of_le_of_lt h1 (by rw [h64];exact hx))
  have hpos:0 < o * 2 ^ k:=Nat.mul_pos (by omega) hp
  obtain ⟨x,hxx⟩:∃ x:Nat,x = o * 2 ^ k:=⟨_,rfl⟩
  have sA:(x:Int) / 2 ^ min k 64 = (o:Int):=by
    rw [Nat.min_eq_left (by omega),hxx]
    have:((o * 2 ^ k:Nat):Int) = (o:Int) * 2 ^ k:=by push_cast;rfl
    rw [this,Int.mul_ediv_cancel _ (by have:=Int.pow_pos (n:=2) (m:=k) (by decide);omega)]
  rw [← hxx] at htz hpos hx ⊢
  have a0:((x:Int) == 0) = false:=by simp;omega
  have N0:0 < N:=by omega
  obtain ⟨j1,j2,j3⟩:=(jokD_iff o (e + k)).1 hj
  obtain ⟨r1,r2,r3,r4⟩:=jrD_spec o (by omega) ho64 (e + k) hj
  obtain ⟨sh,hsh⟩:∃ sh:Nat,sh = jshD o (e + k):=⟨_,rfl⟩
  have hsh2:sh = min (53 - Lib.bitLen o) (e + k + 1074).toNat:=hsh
  have sB:min (53 - N) (e + (k:Int) + 1074) = (sh:Int):=by omega
  obtain ⟨R,hR⟩:∃ R:Nat,R = (e + k + 1074).toNat - sh:=⟨_,rfl⟩
  have sC:e + (k:Int) - (sh:Int) + 1074 = (R:Int):=by omega
  obtain ⟨M,hM⟩:∃ M:Nat,M = o * 2 ^ sh:=⟨_,rfl⟩
  rw [← hsh,← hM] at r4
  have hMi:(o:Int) * 2 ^ sh = (M:Int):=by rw [hM];push_cast;rfl
  have hjr:jrD o (e + k) = R * 4503599627370496 + M:=by unfold jrD;rw [← hsh,hR,hM]
  rw [hjr] at r1 r2 ⊢
  obtain ⟨B,hB⟩:∃ B:Int,B = 4503599627370496:=⟨_,rfl⟩
  have hful:∀ w:World,Calls Tryz.prog 119 #[.agg #[.int .i64 53,.int .i64 (-1074),.int .i64 971]] w fun e w'=>e = .returned (.int .i64 B)∧w' = w.alloc (.cells #[.int .i64 53,.int .i64 (-1074),.int .i64 971] 123):=by rw [hB];exact full_D
  obtain ⟨Z,hZ⟩:∃ Z:Nat,Z = R * 4503599627370496 + M:=⟨_,rfl⟩
  rw [← hZ] at r1 r2 ⊢
  have sD:wrap64 (wrap64 ((R:Int) * B) + wrap64 (IntKind.u64.wrap ((o:Int) * 2 ^ sh))) = (Z:Int):=by
    rw [hMi,hB,wrapU (x:=(M:Int)) (by omega) (by omega),wrapI (x:=(M:Int)) (by omega) (by omega),wrapI (x:=(R:Int) * 4503599627370496) (by omega) (by omega),wrapI (by omega) (by omega)]
    omega
  have hfm:=from_d Z (by omega)
  have hng:Op.unary .neg (.float .f64 (wD false Z)) = pure (.float .f64 (wD true Z)):=by
    show pure (Value.float .f64 (Op.negFloat .f64 (wD false Z))) = _
    rw [negD false Z (by omega)];rfl
  have a1:¬ (1024≤e):=by omega
  have a2:wrap64 (e + (k:Int)) = e + k:=wrapI (by omega) (by omega)
  have a3:¬ (53 < N):=by omega
  have a4:¬ (e + (k:Int) < -1074):=by omega
  have a5:wrap64 (e + (k:Int) + N) = e + k + N:=wrapI (by omega) (by omega)
  have a6:¬ (1024 < e + (k:Int) + N):=by omega
  clear r1 r2 r3 r4 l0 l1 l2 l3 j1 j2 j3 hN hk hpos hx ho ho64 hp hj he1 he2 hxx hT hsh hsh2 hR hM hMi hjr hB
  obtain ⟨V0,hV0⟩:∃ V:Nat,V = wD false Z:=⟨_,rfl⟩
  obtain ⟨V1,hV1⟩:∃ V:Nat,V = wD true Z:=⟨_,rfl⟩
  rw [← hV0] at hfm hng
  rw [← hV1] at hng
  have hV:∃ V:Nat,V = wD neg Z:=⟨_,rfl⟩
  obtain ⟨V,hV⟩:=hV
  rw [← hV]
  have hVc:V = if neg then V1 else V0:=by rw [hV,hV0,hV1];cases neg <;> rfl
  clear hV hV0 hV1 hZ
  cases neg
  · have hVd:V = V0:=hVc
    subst hVd
    clear hVc
    go_enter Tryz.func143,Tryz.ntmps143
    go_wp2_with (first | (go_at_call 115;refine (lay_d _).mono ?_;rintro e w' ⟨rfl,rfl⟩) | (go_at_call 92;refine (htz _ ?_).mono ?_;(exact (by repeat (with_reducible (first | assumption | exact Grown.refl _ | apply Grown.drew | apply Grown.alloc | apply gdrewN | (refine gtrans ?_ (by assumption))))));rintro e w' ⟨rfl,rfl⟩) | (go_at_call 141;refine (hln _).mono ?_;rintro e w' ⟨rfl,rfl⟩))
    refine wp_region_grow (by kernel_rfl) (by kernel_rfl) (fun ι _ G hG hall=>?_)
    have c0:∀ n,(G n).cell? ⟨w.heap.size + 1,0,none⟩ = some (.int .i64 53):=fun n=>gkeep (hG n) (by simp [go_sem])
    have c1:∀ n,(G n).cell? ⟨w.heap.size + 1,1,none⟩ = some (.int .i64 (-1074)):=fun n=>gkeep (hG n) (by simp [go_sem])
    have c2:∀ n,(G n).cell? ⟨w.heap.size + 1,2,none⟩ = some (.int .i64 971):=fun n=>gkeep (hG n) (by simp [go_sem])
    repeat (go_big_quiet_step (first | (go_at_call 119;exact (hful _).mono (fun e w' h=>⟨h.1,hall _ (by rw [h.2];exact (hG _).alloc _ _)⟩)) | (go_at_call 148;exact (hfm _).mono (fun e w' h=>⟨h.1,hall _ (by rw [h.2];exact hG _)⟩))))
    refine wpQuiet_nil ?_
    rintro _ ⟨nq,rfl⟩
    have gq:=hG nq
    clear c0 c1 c2 hall
    go_wp2
    exact bodyPost_ret (v:=.tuple #[.float .f64 V,.int .i64 0]) (by simp [results,Tryz.results143,go_sem] <;> simp only [*]) rfl ⟨rfl,(by repeat (with_reducible (first | assumption | exact Grown.refl _ | apply Grown.drew | apply Grown.alloc | apply gdrewN | (refine gtrans ?_ (by assumption)))))⟩
  · have hVd:V = V1:=hVc
    subst hVd
    clear hVc
    go_enter Tryz.func143,Tryz.ntmps143
    go_wp2_with (first | (go_at_call 115;refine (lay_d _).mono ?_;rintro e w' ⟨rfl,rfl⟩) | (go_at_call 92;refine (htz _ ?_).mono ?_;(exact (by repeat (with_reducible (first | assumption | exact Grown.refl _ | apply Grown.drew | apply Grown.alloc | apply gdrewN | (refine gtrans ?_ (by assumption))))));rintro e w' ⟨rfl,rfl⟩) | (go_at_call 141;refine (hln _).mono ?_;rintro e w' ⟨rfl,rfl⟩))
    refine wp_region_grow (by kernel_rfl) (by kernel_rfl) (fun ι _ G hG hall=>?_)
    have c0:∀ n,(G n).cell? ⟨w.heap.size + 1,0,none⟩ = some (.int .i64 53):=fun n=>gkeep (hG n) (by simp [go_sem])
    have c1:∀ n,(G n).cell? ⟨w.heap.size + 1,1,none⟩ = some (.int .i64 (-1074)):=fun n=>gkeep (hG n) (by simp [go_sem])
    have c2:∀ n,(G n).cell? ⟨w.heap.size + 1,2,none⟩ = some (.int .i64 971):=fun n=>gkeep (hG n) (by simp [go_sem])
    repeat (go_big_quiet_step (first | (go_at_call 119;exact (hful _).mono (fun e w' h=>⟨h.1,hall _ (by rw [h.2];exact (hG _).alloc _ _)⟩)) | (go_at_call 148;exact (hfm _).mono (fun e w' h=>⟨h.1,hall _ (by rw [h.2];exact hG _)⟩))))
    refine wpQuiet_nil ?_
    rintro _ ⟨nq,rfl⟩
    have gq:=hG nq
    clear c0 c1 c2 hall
    go_wp2
    exact bodyPost_ret (v:=.tuple #[.float .f64 V,.int .i64 0]) (by simp [results,Tryz.results143,go_sem] <;> simp only [*]) rfl ⟨rfl,(by repeat (with_reducible (first | assumption | exact Grown.refl _ | apply Grown.drew | apply Grown.alloc | apply gdrewN | (refine gtrans ?_ (by assumption)))))⟩
theorem joinx_d (neg:Bool) (o k:Nat) (ho:o % 2 = 1) (hx:o * 2 ^ k < 18446744073709551616) (e:Int) (he1:-9223372036854775808≤e) (he2:e < 9223372036854775808) (hj:jokD o (e + k) = false) (w:World) (hT:Tab w) :
    Calls Tryz.prog 143 #[.bool neg,.int .u64 ((o * 2 ^ k:Nat):Int),.int .i64 e] w fun e' w'=>e' = .returned (.tuple #[.float .f64 0,.int .i64 1])∧Grown w w':=by
  have htz:∀ w',Grown w w'→Calls Tryz.prog 92 #[.int .u64 ((o * 2 ^ k:Nat):Int)] w' fun e w''=>e = .returned (.int .i64 (k:Int))∧w'' = w':=fun w' g=>tz_ o k ho hx w' (hT.grown g)
  have hp:=Nat.two_pow_pos k
  have ho64:o < 18446744073709551616:=Nat.lt_of_le_of_lt (Nat.le_mul_of_pos_right o hp) hx
  have hln:=len64_ (o:Int) (by omega) (by omega)
  rw [Int.toNat_natCast] at hln
  obtain ⟨l0,l1,l2,l3⟩:=bitLen_bd o (by omega) ho64
  obtain ⟨N,hN⟩:∃ N:Int,N = ((Lib.bitLen o:Nat):Int):=⟨_,rfl⟩
  rw [← hN] at hln
  have hk:k < 64:=by
    have h64:(2:Nat) ^ 64 = 18446744073709551616:=by decide
    have h1:2 ^ k≤o * 2 ^ k:=Nat.le_mul_of_pos_left _ (by omega)
    exact (Nat.pow_lt_pow_iff_right (by decide:1 < 2)).1 (Nat.lt_of_le_of_lt h1 (by rw [h64];exact hx))
  have hpos:0 < o * 2 ^ k:=Nat.mul_pos (by omega) hp
  obtain ⟨x,hxx⟩:∃ x:Nat,x = o * 2 ^ k:=⟨_,rfl⟩
  have sA:(x:Int) / 2 ^ min k 64 = (o:Int):=by
    rw [Nat.min_eq_left (by omega),hxx]
    have:((o * 2 ^ k:Nat):Int) = (o:Int) * 2 ^ k:=by push_cast;rfl
    rw [this,Int.mul_ediv_cancel _ (by have:=Int.pow_pos (n:=2) (m:=k) (by decide);omega)]
  rw [← hxx] at htz hpos hx ⊢
  have a0:((x:Int) == 0) = false:=by simp;omega
  have N0:0 < N:=by omega
  have hjn:¬ (Lib.bitLen o≤53∧-1074≤e + k∧e + k + Lib.bitLen o≤1024):=fun hh=>by
    have:=(jokD_iff o (e + k)).2 hh
    rw [this] at hj;cases hj
  by_cases a1:1024≤e
  · clear l0 l1 l2 l3 hN hk hpos hx ho ho64 hp hj he1 he2 hxx hT hjn
    go_enter Tryz.func143,Tryz.ntmps143
    go_wp2_with (first | (go_at_call 115;refine (lay_d _).mono ?_;rintro e w' ⟨rfl,rfl⟩) | (go_at_call 92;refine (htz _ ?_).mono ?_;(exact (by repeat (with_reducible (first | assumption | exact Grown.refl _ | apply Grown.drew | apply Grown.alloc | apply gdrewN | (refine gtrans ?_ (by assumption))))));rintro e w' ⟨rfl,rfl⟩) | (go_at_call 141;refine (hln _).mono ?_;rintro e w' ⟨rfl,rfl⟩))
    exact bodyPost_ret (v:=.tuple #[.float .f64 0,.int .i64 1]) (by simp [results,Tryz.results143,go_sem] <;> simp only [*]) rfl ⟨rfl,(by repeat (with_reducible (first | assumption | exact Grown.refl _ | apply Grown.drew | apply Grown.alloc | apply gdrewN | (refine gtrans ?_ (by assumption)))))⟩
  have a2:wrap64 (e + (k:Int)) = e + k:=wrapI (by omega) (by omega)
  by_cases a3:53 < N
  · clear l0 l1 l2 l3 hN hk hpos hx ho ho64 hp hj he1 he2 hxx hT hjn
    go_enter Tryz.func143,Tryz.ntmps143
    go_wp2_with (first | (go_at_call 115;refine (lay_d _).mono ?_;rintro e w' ⟨rfl,rfl⟩) | (go_at_call 92;refine (htz _ ?_).mono ?_;(exact (by repeat (with_reducible (first | assumption | exact Grown.refl _ | apply Grown.drew | apply Grown.alloc | apply gdrewN | (refine gtrans ?_ (by assumption))))));rintro e w' ⟨rfl,rfl⟩) | (go_at_call 141;refine (hln _).mono ?_;rintro e w' ⟨rfl,rfl⟩))
    exact bodyPost_ret (v:=.tuple #[.float .f64 0,.int .i64 1]) (by simp [results,Tryz.results143,go_sem] <;> simp only [*]) rfl ⟨rfl,(by repeat (with_reducible (first | assumption | exact Grown.refl _ | apply Grown.drew | apply Grown.alloc | apply gdrewN | (refine gtrans ?_ (by assumption)))))⟩
  by_cases a4:e + (k:Int) < -1074
  · clear l0 l1 l2 l3 hN hk hpos hx ho ho64 hp hj he1 he2 hxx hT hjn
    go_enter Tryz.func143,Tryz.ntmps143
    go_wp2_with (first | (go_at_call 115;refine (lay_d _).mono ?_;rintro e w' ⟨rfl,rfl⟩) | (go_at_call 92;refine (htz _ ?_).mono ?_;(exact (by repeat (with_reducible (first | assumption | exact Grown.refl _ | apply Grown.drew | apply Grown.alloc | apply gdrewN | (refine gtrans ?_ (by assumption))))));rintro e w' ⟨rfl,rfl⟩) | (go_at_call 141;refine (hln _).mono ?_;rintro e w' ⟨rfl,rfl⟩))
    exact bodyPost_ret (v:=.tuple #[.float .f64 0,.int .i64 1]) (by simp [results,Tryz.results143,go_sem] <;> simp only [*]) rfl ⟨rfl,(by repeat (with_reducible (first | assumption | exact Grown.refl _ | apply Grown.drew | apply Grown.alloc | apply gdrewN | (refine gtrans ?_ (by assumption)))))⟩
  have a5:wrap64 (e + (k:Int) + N) = e + k + N:=wrapI (by omega) (by omega)
  have a6:1024 < e + (k:Int) + N:=by omega
  clear l0 l1 l2 l3 hN hk hpos hx ho ho64 hp hj he1 he2 hxx hT hjn
  go_enter Tryz.func143,Tryz.ntmps143
  go_wp2_with (first | (go_at_call 115;refine (lay_d _).mono ?_;rintro e w' ⟨rfl,rfl⟩) | (go_at_call 92;refine (htz _ ?_).mono ?_;(exact (by repeat (with_reducible (first | assumption | exact Grown.refl _ | apply Grown.drew | apply Grown.alloc | apply gdrewN | (refine gtrans ?_ (by assumption))))));rintro e w' ⟨rfl,rfl⟩) | (go_at_call 141;refine (hln _).mono ?_;rintro e w' ⟨rfl,rfl⟩))
  exact bodyPost_ret (v:=.tuple #[.float .f64 0,.int .i64 1]) (by simp [results,Tryz.results143,go_sem] <;> simp only [*]) rfl ⟨rfl,(by repeat (with_reducible (first | assumption | exact Grown.refl _ | apply Grown.drew | apply Grown.alloc | apply gdrewN | (refine gtrans ?_ (by assumption)))))⟩
end Fq
namespace Fq
theorem place_d (n:Bool) (m:Nat) (hm:m≤9218868437227405312) (w:World):Calls Tryz.prog 114 #[.float .f64 (wD n m)] w fun e w'=>e = .returned (.tuple #[.int .i64 (plz n m),.bool true])∧Grown w w':=by
  have hpat:=patt_d n m (by omega)
  obtain ⟨I,hI⟩:∃ I:Int,I = 9218868437227405312:=⟨_,rfl⟩
  have hinf:∀ w:World,Calls Tryz.prog 116 #[.agg #[.int .i64 53,.int .i64 (-1074),.int .i64 971]] w fun e w'=>e = .returned (.int .i64 I)∧w' = ((w.alloc (.cells #[.int .i64 53,.int .i64 (-1074),.int .i64 971] 123)).alloc (.cells #[.int .i64 53,.int .i64 (-1074),.int .i64 971] 123)).drew:=by rw [hI];exact infi_D
  have d1:¬ (I < (m:Int)):=by omega
  have d2:wrap64 (-(m:Int)) = -(m:Int):=by unfold wrap64;omega
  clear hI hm
  cases n
  · have ec:plz false m = (m:Int):=rfl
    rw [ec]
    clear ec d2
    go_enter Tryz.func114,Tryz.ntmps114
    go_wp2_with (first | (go_at_call 115;refine (lay_d _).mono ?_;rintro e w' ⟨rfl,rfl⟩) | (go_at_call 118;refine (hpat _).mono ?_;rintro e w' ⟨rfl,rfl⟩) | (go_at_call 116;refine (hinf _).mono ?_;rintro e w' ⟨rfl,rfl⟩))
    exact bodyPost_ret (v:=.tuple #[.int .i64 (m:Int),.bool true]) (by simp [results,Tryz.results114,go_sem] <;> simp only [*]) rfl ⟨rfl,(by repeat (with_reducible (first | assumption | exact Grown.refl _ | apply Grown.drew | apply Grown.alloc | apply gdrewN | (refine gtrans ?_ (by assumption)))))⟩
  · have ec:plz true m = -(m:Int):=rfl
    rw [ec]
    clear ec
    go_enter Tryz.func114,Tryz.ntmps114
    go_wp2_with (first | (go_at_call 115;refine (lay_d _).mono ?_;rintro e w' ⟨rfl,rfl⟩) | (go_at_call 118;refine (hpat _).mono ?_;rintro e w' ⟨rfl,rfl⟩) | (go_at_call 116;refine (hinf _).mono ?_;rintro e w' ⟨rfl,rfl⟩))
    exact bodyPost_ret (v:=.tuple #[.int .i64 (-(m:Int)),.bool true]) (by simp [results,Tryz.results114,go_sem] <;> simp only [*]) rfl ⟨rfl,(by repeat (with_reducible (first | assumption | exact Grown.refl _ | apply Grown.drew | apply Grown.alloc | apply gdrewN | (refine gtrans ?_ (by assumption)))))⟩

theorem at_d (p:Int) (h1:-9218868437227405312≤p) (h2:p≤9218868437227405312) (w:World):Calls Tryz.prog 117 #[.int .i64 p] w fun e w'=>e = .returned (.tuple #[.float .f64 (fD p),.bool true])∧Grown w w':=by
  obtain ⟨I,hI⟩:∃ I:Int,I = 9218868437227405312:=⟨_,rfl⟩
  have hinf:∀ w:World,Calls Tryz.prog 116 #[.agg #[.int .i64 53,.int .i64 (-1074),.int .i64 971]] w fun e w'=>e = .returned (.int .i64 I)∧w' = ((w.alloc (.cells #[.int .i64 53,.int .i64 (-1074),.int .i64 971] 123)).alloc (.cells #[.int .i64 53,.int .i64 (-1074),.int .i64 971] 123)).drew:=by rw [hI];exact infi_D
  have d1:¬ (p < -I):=by omega
  have d2:¬ (I < p):=by omega
  have d0:wrap64 (-I) = -I:=by unfold wrap64;omega
  by_cases c:p < 0
  · have ef:fD p = wD true p.natAbs:=by unfold fD;simp [c]
    rw [ef]
    have e2:wrap64 (-p) = ((p.natAbs:Nat):Int):=by unfold wrap64;omega
    have hfr:=from_d p.natAbs (by omega)
    obtain ⟨a,ha⟩:∃ a:Nat,a = p.natAbs:=⟨_,rfl⟩
    rw [← ha] at e2 hfr ⊢
    have hng:Op.unary .neg (.float .f64 (wD false a)) = pure (.float .f64 (wD true a)):=by
      show pure (Value.float .f64 (Op.negFloat .f64 (wD false a))) = _
      rw [negD false a (by omega)];rfl
    clear hI h1 h2 ef ha
    go_enter Tryz.func117,Tryz.ntmps117
    go_wp2_with (first | (go_at_call 115;refine (lay_d _).mono ?_;rintro e w' ⟨rfl,rfl⟩) | (go_at_call 148;refine (hfr _).mono ?_;rintro e w' ⟨rfl,rfl⟩) | (go_at_call 116;refine (hinf _).mono ?_;rintro e w' ⟨rfl,rfl⟩))
    exact bodyPost_ret (v:=.tuple #[.float .f64 (wD true a),.bool true]) (by simp [results,Tryz.results117,go_sem] <;> simp only [*]) rfl ⟨rfl,(by repeat (with_reducible (first | assumption | exact Grown.refl _ | apply Grown.drew | apply Grown.alloc | apply gdrewN | (refine gtrans ?_ (by assumption)))))⟩
  · have ef:fD p = wD false p.natAbs:=by unfold fD;simp [c]
    rw [ef]
    have e2:p = ((p.natAbs:Nat):Int):=by omega
    have hfr:∀ w:World,Calls Tryz.prog 148 #[.int .i64 p] w fun e w'=>e = .returned (.float .f64 (wD false p.natAbs))∧w' = w:=by
      have:=from_d p.natAbs (by omega)
      rw [← e2] at this;exact this
    obtain ⟨a,ha⟩:∃ a:Nat,a = p.natAbs:=⟨_,rfl⟩
    rw [← ha] at hfr ⊢
    clear hI h1 h2 ef ha e2
    go_enter Tryz.func117,Tryz.ntmps117
    go_wp2_with (first | (go_at_call 115;refine (lay_d _).mono ?_;rintro e w' ⟨rfl,rfl⟩) | (go_at_call 148;refine (hfr _).mono ?_;rintro e w' ⟨rfl,rfl⟩) | (go_at_call 116;refine (hinf _).mono ?_;rintro e w' ⟨rfl,rfl⟩))
    exact bodyPost_ret (v:=.tuple #[.float .f64 (wD false a),.bool true]) (by simp [results,Tryz.results117,go_sem] <;> simp only [*]) rfl ⟨rfl,(by repeat (with_reducible (first | assumption | exact Grown.refl _ | apply Grown.drew | apply Grown.alloc | apply gdrewN | (refine gtrans ?_ (by assumption)))))⟩

theorem up_d (n:Bool) (m:Nat) (hm:m≤9218868437227405312) (h2:plz n m≠9218868437227405312) (w:World):Calls Tryz.prog 90 #[.float .f64 (wD n m)] w fun e w'=>e = .returned (.float .f64 (fD (plz n m + 1)))∧Grown w w':=by
  have hpl:=place_d n m hm
  obtain ⟨I,hI⟩:∃ I:Int,I = 9218868437227405312:=⟨_,rfl⟩
  have hinf:∀ w:World,Calls Tryz.prog 116 #[.agg #[.int .i64 53,.int .i64 (-1074),.int .i64 971]] w fun e w'=>e = .returned (.int .i64 I)∧w' = ((w.alloc (.cells #[.int .i64 53,.int .i64 (-1074),.int .i64 971] 123)).alloc (.cells #[.int .i64 53,.int .i64 (-1074),.int .i64 971] 123)).drew:=by rw [hI];exact infi_D
  have hb:=plz_bd n m
  obtain ⟨p,hp⟩:∃ p:Int,p = plz n m:=⟨_,rfl⟩
  rw [← hp] at hpl h2 hb ⊢
  have hat:=at_d (p + 1) (by omega) (by omega)
  have d1:(p == I) = false:=by simp;omega
  have d2:wrap64 (p + 1) = p + 1:=by unfold wrap64;omega
  have d3:¬ (p = I):=by omega
  clear hI hm h2 hb hp
  go_enter Tryz.func90,Tryz.ntmps90
  go_wp2_with (first | (go_at_call 115;refine (lay_d _).mono ?_;rintro e w' ⟨rfl,rfl⟩) | (go_at_call 116;refine (hinf _).mono ?_;rintro e w' ⟨rfl,rfl⟩) | (go_at_call 114;refine (hpl _).mono ?_;rintro e w' ⟨rfl,g1⟩) | (go_at_call 117;refine (hat _).mono ?_;rintro e w' ⟨rfl,g2⟩))
  exact bodyPost_ret (v:=.float .f64 (fD (p + 1))) (by simp [results,Tryz.results90,go_sem] <;> simp only [*]) rfl ⟨rfl,(by repeat (with_reducible (first | assumption | exact Grown.refl _ | apply Grown.drew | apply Grown.alloc | apply gdrewN | (refine gtrans ?_ (by assumption)))))⟩

theorem dn_d (n:Bool) (m:Nat) (hm:m≤9218868437227405312) (h2:plz n m≠-9218868437227405312) (w:World):Calls Tryz.prog 89 #[.float .f64 (wD n m)] w fun e w'=>e = .returned (.float .f64 (fD (plz n m - 1)))∧Grown w w':=by
  have hpl:=place_d n m hm
  obtain ⟨I,hI⟩:∃ I:Int,I = 9218868437227405312:=⟨_,rfl⟩
  have hinf:∀ w:World,Calls Tryz.prog 116 #[.agg #[.int .i64 53,.int .i64 (-1074),.int .i64 971]] w fun e w'=>e = .returned (.int .i64 I)∧w' = ((w.alloc (.cells #[.int .i64 53,.int .i64 (-1074),.int .i64 971] 123)).alloc (.cells #[.int .i64 53,.int .i64 (-1074),.int .i64 971] 123)).drew:=by rw [hI];exact infi_D
  have hb:=plz_bd n m
  obtain ⟨p,hp⟩:∃ p:Int,p = plz n m:=⟨_,rfl⟩
  rw [← hp] at hpl h2 hb ⊢
  have hat:=at_d (p - 1) (by omega) (by omega)
  have d1:(p == -I) = false:=by simp;omega
  have d2:wrap64 (p - 1) = p - 1:=by unfold wrap64;omega
  have d0:wrap64 (-I) = -I:=by unfold wrap64;omega
  have d3:¬ (p = -I):=by omega
  clear hI hm h2 hb hp
  go_enter Tryz.func89,Tryz.ntmps89
  go_wp2_with (first | (go_at_call 115;refine (lay_d _).mono ?_;rintro e w' ⟨rfl,rfl⟩) | (go_at_call 116;refine (hinf _).mono ?_;rintro e w' ⟨rfl,rfl⟩) | (go_at_call 114;refine (hpl _).mono ?_;rintro e w' ⟨rfl,g1⟩) | (go_at_call 117;refine (hat _).mono ?_;rintro e w' ⟨rfl,g2⟩))
  exact bodyPost_ret (v:=.float .f64 (fD (p - 1))) (by simp [results,Tryz.results89,go_sem] <;> simp only [*]) rfl ⟨rfl,(by repeat (with_reducible (first | assumption | exact Grown.refl _ | apply Grown.drew | apply Grown.alloc | apply gdrewN | (refine gtrans ?_ (by assumption)))))⟩

theorem plain_d (n:Bool) (m:Nat) (h2:m < 9223372036854775808) (w:World):Calls Tryz.prog 74 #[.float .f64 (wD n m)] w fun e w'=>e = .returned (.float .f64 (wD (n && !(m == 0)) m))∧w' = w:=by
  have ho:=eqzD n m h2
  by_cases c:m = 0
  · subst c
    have ew:wD (n && !((0:Nat) == 0)) 0 = 0:=by simp [wD]
    rw [ew]
    clear ew
    have ho2:(FloatKind.f64.format.order (wD n 0) 0 == some .eq) = true:=by rw [ho];rfl
    clear ho
    go_enter Tryz.func74,Tryz.ntmps74
    go_wp2
    exact bodyPost_ret (v:=.float .f64 0) (by simp [results,Tryz.results74,go_sem] <;> simp only [*]) rfl ⟨rfl,rfl⟩
  · have ew:(n && !(m == 0)) = n:=by simp [c]
    rw [ew]
    clear ew
    have ho2:(FloatKind.f64.format.order (wD n m) 0 == some .eq) = false:=by rw [ho];simp [c]
    clear ho c
    go_enter Tryz.func74,Tryz.ntmps74
    go_wp2
    exact bodyPost_ret (v:=.float .f64 (wD n m)) (by simp [results,Tryz.results74,go_sem] <;> simp only [*]) rfl ⟨rfl,rfl⟩

end Fq
end Go.Proofs.YtnileplkkmhdgaaGreatDoor
