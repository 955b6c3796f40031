import Derived.Test.YtnileplkkmhdgaaGreatDoorKQA
set_option maxHeartbeats 2000000
set_option maxRecDepth 20000
namespace Go.Proofs.YtnileplkkmhdgaaGreatDoor
open Go.RowKit
namespace Fq

theorem wp_region_grow {P:Program} {id:Nat} {Q:Exit→Act→World→Prop} {a:Act} {w:World} {l:List Oper} (hm:P.follows .mixedOrders = true) (hB:Region.lexB .any l.toArray = true)
    (h:∀ (ι:Type) (_:Nonempty ι) (G:ι→World),(∀ n,Grown w (G n))→(∀ w',Grown w w'→∃ n,w' = G n)→wpQuiet P l.toArray (fun w'=>∃ n,w' = G n) (fun a'=>∀ w',(∃ n,w' = G n)→Q .normal a' w') l a) :
    (Code.region id l.toArray true).wp P Q a w:=by
  have hh:=h {w':World // Grown w w'} ⟨⟨w,Grown.refl w⟩⟩ Subtype.val (fun n=>n.2) (fun w' hw=>⟨⟨w',hw⟩,rfl⟩)
  exact wp_region_quiet (C:=fun w'=>∃ n:{w':World // Grown w w'},w' = n.val) hm hB ⟨⟨_,(Grown.refl w).drew⟩,rfl⟩ (by simpa using hh)
end Fq
namespace Fq
theorem split_d (n:Bool) (m:Nat) (hm:m < 9218868437227405312) (w:World):Calls Tryz.prog 91 #[.float .f64 (wD n m)] w fun e w'=>e = .returned (.tuple #[.bool (n && !(m == 0)),.int .u64 ((sgD m:Nat):Int),.int .i64 (epD m),.bool true])∧Grown w w':=by
  have hpat:=patt_d n m (by omega)
  obtain ⟨I,hI⟩:∃ I:Int,I = 9218868437227405312:=⟨_,rfl⟩
  have hinf:∀ w:World,Calls Tryz.prog 116 #[.agg #[.int .i64 53,.int .i64 (-1074),.int .i64 971]] w fun e w'=>e = .returned (.int .i64 I)∧w' = ((w.alloc (.cells #[.int .i64 53,.int .i64 (-1074),.int .i64 971] 123)).alloc (.cells #[.int .i64 53,.int .i64 (-1074),.int .i64 971] 123)).drew:=by rw [hI];exact infi_D
  obtain ⟨B,hB⟩:∃ B:Int,B = 4503599627370496:=⟨_,rfl⟩
  have hful:∀ w:World,Calls Tryz.prog 119 #[.agg #[.int .i64 53,.int .i64 (-1074),.int .i64 971]] w fun e w'=>e = .returned (.int .i64 B)∧w' = w.alloc (.cells #[.int .i64 53,.int .i64 (-1074),.int .i64 971] 123):=by rw [hB];exact full_D
  have d1:¬ (I≤(m:Int)):=by omega
  have f7:¬ B = 0:=by omega
  obtain ⟨R,hR⟩:∃ R:Int,R = (m:Int):=⟨_,rfl⟩
  rw [← hR] at hpat d1
  obtain ⟨U,hU⟩:∃ U:Int,wrap64 (wrap64 (R.tdiv B) - 1) = U:=⟨_,rfl⟩
  have hU2:U = (m:Int) / 4503599627370496 - 1:=by
    rw [← hU,hR,hB,Int.tdiv_eq_ediv_of_nonneg (by omega),wrapI (x:=(m:Int) / 4503599627370496) (by omega) (by omega),wrapI (by omega) (by omega)]
  by_cases cB:m < 4503599627370496
  · have u1:U < 0:=by omega
    have e1:((sgD m:Nat):Int) = R:=by rw [hR];unfold sgD sgG;(repeat' split) <;> omega
    have e2:epD m = -1074:=by unfold epD epG;(repeat' split) <;> omega
    have e3:IntKind.u64.wrap R = R:=by rw [hR,wrapU (by omega) (by omega)]
    have e4:wrap64 R = R:=by rw [hR,wrapI (by omega) (by omega)]
    have e5:IntKind.i64.wrap R = R:=by rw [IntWalk.i64_left];exact e4
    rw [e1,e2]
    by_cases cz:m = 0
    · have z1:(R != 0) = false:=by rw [hR];simp;omega
      have z2:(n && !(m == 0)) = false:=by simp [cz]
      rw [z2]
      clear hI hB hR hm hU2 cB e1 e2 z2 cz
      cases n
      · skip
        go_enter Tryz.func91,Tryz.ntmps91
        go_wp2_with (first | (go_at_call 115;refine (lay_d _).mono ?_;rintro e w' ⟨rfl,rfl⟩) | (go_at_call 118;refine (hpat _).mono ?_;rintro e w' ⟨rfl,rfl⟩) | (go_at_call 116;refine (hinf _).mono ?_;rintro e w' ⟨rfl,rfl⟩) | (go_at_call 119;refine (hful _).mono ?_;rintro e w' ⟨rfl,rfl⟩))
        refine wp_region_grow (by kernel_rfl) (by kernel_rfl) (fun ι _ G hG hall=>?_)
        have c0:∀ n,(G n).cell? ⟨w.heap.size + 1,0,none⟩ = some (.int .i64 53):=fun n=>gkeep (hG n) (by simp [go_sem,World.cell?_alloc_past])
        have c1:∀ n,(G n).cell? ⟨w.heap.size + 1,1,none⟩ = some (.int .i64 (-1074)):=fun n=>gkeep (hG n) (by simp [go_sem,World.cell?_alloc_past])
        have c2:∀ n,(G n).cell? ⟨w.heap.size + 1,2,none⟩ = some (.int .i64 971):=fun n=>gkeep (hG n) (by simp [go_sem,World.cell?_alloc_past])
        repeat (go_big_quiet_step (exact (hful _).mono (fun e w' h=>⟨h.1,hall _ (by rw [h.2];exact (hG _).alloc _ _)⟩)))
        refine wpQuiet_nil ?_
        rintro _ ⟨nq,rfl⟩
        have gq:=hG nq
        clear c0 c1 c2 hall
        go_wp2
        exact bodyPost_ret (v:=.tuple #[.bool false,.int .u64 R,.int .i64 (-1074),.bool true]) (by simp [results,Tryz.results91,go_sem] <;> simp only [*]) rfl ⟨rfl,(by repeat (with_reducible (first | assumption | exact Grown.refl _ | apply Grown.drew | apply Grown.alloc | apply gdrewN | (refine gtrans ?_ (by assumption)))))⟩
      · skip
        go_enter Tryz.func91,Tryz.ntmps91
        go_wp2_with (first | (go_at_call 115;refine (lay_d _).mono ?_;rintro e w' ⟨rfl,rfl⟩) | (go_at_call 118;refine (hpat _).mono ?_;rintro e w' ⟨rfl,rfl⟩) | (go_at_call 116;refine (hinf _).mono ?_;rintro e w' ⟨rfl,rfl⟩) | (go_at_call 119;refine (hful _).mono ?_;rintro e w' ⟨rfl,rfl⟩))
        refine wp_region_grow (by kernel_rfl) (by kernel_rfl) (fun ι _ G hG hall=>?_)
        have c0:∀ n,(G n).cell? ⟨w.heap.size + 1,0,none⟩ = some (.int .i64 53):=fun n=>gkeep (hG n) (by simp [go_sem,World.cell?_alloc_past])
        have c1:∀ n,(G n).cell? ⟨w.heap.size + 1,1,none⟩ = some (.int .i64 (-1074)):=fun n=>gkeep (hG n) (by simp [go_sem,World.cell?_alloc_past])
        have c2:∀ n,(G n).cell? ⟨w.heap.size + 1,2,none⟩ = some (.int .i64 971):=fun n=>gkeep (hG n) (by simp [go_sem,World.cell?_alloc_past])
        repeat (go_big_quiet_step (exact (hful _).mono (fun e w' h=>⟨h.1,hall _ (by rw [h.2];exact (hG _).alloc _ _)⟩)))
        refine wpQuiet_nil ?_
        rintro _ ⟨nq,rfl⟩
        have gq:=hG nq
        clear c0 c1 c2 hall
        go_wp2
        exact bodyPost_ret (v:=.tuple #[.bool false,.int .u64 R,.int .i64 (-1074),.bool true]) (by simp [results,Tryz.results91,go_sem] <;> simp only [*]) rfl ⟨rfl,(by repeat (with_reducible (first | assumption | exact Grown.refl _ | apply Grown.drew | apply Grown.alloc | apply gdrewN | (refine gtrans ?_ (by assumption)))))⟩
    · have z1:(R != 0) = true:=by rw [hR];simp;omega
      have z2:(n && !(m == 0)) = n:=by simp [cz]
      rw [z2]
      clear hI hB hR hm hU2 cB e1 e2 z2 cz
      cases n
      · skip
        go_enter Tryz.func91,Tryz.ntmps91
        go_wp2_with (first | (go_at_call 115;refine (lay_d _).mono ?_;rintro e w' ⟨rfl,rfl⟩) | (go_at_call 118;refine (hpat _).mono ?_;rintro e w' ⟨rfl,rfl⟩) | (go_at_call 116;refine (hinf _).mono ?_;rintro e w' ⟨rfl,rfl⟩) | (go_at_call 119;refine (hful _).mono ?_;rintro e w' ⟨rfl,rfl⟩))
        refine wp_region_grow (by kernel_rfl) (by kernel_rfl) (fun ι _ G hG hall=>?_)
        have c0:∀ n,(G n).cell? ⟨w.heap.size + 1,0,none⟩ = some (.int .i64 53):=fun n=>gkeep (hG n) (by simp [go_sem,World.cell?_alloc_past])
        have c1:∀ n,(G n).cell? ⟨w.heap.size + 1,1,none⟩ = some (.int .i64 (-1074)):=fun n=>gkeep (hG n) (by simp [go_sem,World.cell?_alloc_past])
        have c2:∀ n,(G n).cell? ⟨w.heap.size + 1,2,none⟩ = some (.int .i64 971):=fun n=>gkeep (hG n) (by simp [go_sem,World.cell?_alloc_past])
        repeat (go_big_quiet_step (exact (hful _).mono (fun e w' h=>⟨h.1,hall _ (by rw [h.2];exact (hG _).alloc _ _)⟩)))
        refine wpQuiet_nil ?_
        rintro _ ⟨nq,rfl⟩
        have gq:=hG nq
        clear c0 c1 c2 hall
        go_wp2
        exact bodyPost_ret (v:=.tuple #[.bool false,.int .u64 R,.int .i64 (-1074),.bool true]) (by simp [results,Tryz.results91,go_sem] <;> simp only [*]) rfl ⟨rfl,(by repeat (with_reducible (first | assumption | exact Grown.refl _ | apply Grown.drew | apply Grown.alloc | apply gdrewN | (refine gtrans ?_ (by assumption)))))⟩
      · skip
        go_enter Tryz.func91,Tryz.ntmps91
        go_wp2_with (first | (go_at_call 115;refine (lay_d _).mono ?_;rintro e w' ⟨rfl,rfl⟩) | (go_at_call 118;refine (hpat _).mono ?_;rintro e w' ⟨rfl,rfl⟩) | (go_at_call 116;refine (hinf _).mono ?_;rintro e w' ⟨rfl,rfl⟩) | (go_at_call 119;refine (hful _).mono ?_;rintro e w' ⟨rfl,rfl⟩))
        refine wp_region_grow (by kernel_rfl) (by kernel_rfl) (fun ι _ G hG hall=>?_)
        have c0:∀ n,(G n).cell? ⟨w.heap.size + 1,0,none⟩ = some (.int .i64 53):=fun n=>gkeep (hG n) (by simp [go_sem,World.cell?_alloc_past])
        have c1:∀ n,(G n).cell? ⟨w.heap.size + 1,1,none⟩ = some (.int .i64 (-1074)):=fun n=>gkeep (hG n) (by simp [go_sem,World.cell?_alloc_past])
        have c2:∀ n,(G n).cell? ⟨w.heap.size + 1,2,none⟩ = some (.int .i64 971):=fun n=>gkeep (hG n) (by simp [go_sem,World.cell?_alloc_past])
        repeat (go_big_quiet_step (exact (hful _).mono (fun e w' h=>⟨h.1,hall _ (by rw [h.2];exact (hG _).alloc _ _)⟩)))
        refine wpQuiet_nil ?_
        rintro _ ⟨nq,rfl⟩
        have gq:=hG nq
        clear c0 c1 c2 hall
        go_wp2
        exact bodyPost_ret (v:=.tuple #[.bool true,.int .u64 R,.int .i64 (-1074),.bool true]) (by simp [results,Tryz.results91,go_sem] <;> simp only [*]) rfl ⟨rfl,(by repeat (with_reducible (first | assumption | exact Grown.refl _ | apply Grown.drew | apply Grown.alloc | apply gdrewN | (refine gtrans ?_ (by assumption)))))⟩
  · have u1:¬ (U < 0):=by omega
    have e1:((sgD m:Nat):Int) = R - U * B:=by rw [hU2,hB,hR];unfold sgD sgG;(repeat' split) <;> omega
    have e2:epD m = -1074 + U:=by rw [hU2];unfold epD epG;(repeat' split) <;> omega
    have e3:IntKind.u64.wrap (wrap64 (R - wrap64 (U * B))) = R - U * B:=by
      rw [hU2,hB,hR,wrapI (x:=((m:Int) / 4503599627370496 - 1) * 4503599627370496) (by omega) (by omega),wrapI (by omega) (by omega),wrapU (by omega) (by omega)]
    have e4:wrap64 (-1074 + U) = -1074 + U:=by rw [wrapI (by omega) (by omega)]
    have e5:IntKind.u64.wrap (IntKind.i64.wrap (R - IntKind.i64.wrap (U * B))) = R - U * B:=by rw [IntWalk.i64_left,IntWalk.i64_left];exact e3
    have e6:IntKind.i64.wrap (-1074 + U) = -1074 + U:=by rw [IntWalk.i64_left];exact e4
    have e7:wrap64 U = U:=by rw [hU2,wrapI (by omega) (by omega)]
    have e8:IntKind.i64.wrap U = U:=by rw [IntWalk.i64_left];exact e7
    rw [e1,e2]
    have z1:(R != 0) = true:=by rw [hR];simp;omega
    have z2 : (n && !(m == 0)) = n := by have : ¬ m = 0 := by omega
                                         simp [this]
    rw [z2]
    clear hI hB hR hm hU2 cB e1 e2 z2
    cases n
    · skip
      go_enter Tryz.func91,Tryz.ntmps91
      go_wp2_with (first | (go_at_call 115;refine (lay_d _).mono ?_;rintro e w' ⟨rfl,rfl⟩) | (go_at_call 118;refine (hpat _).mono ?_;rintro e w' ⟨rfl,rfl⟩) | (go_at_call 116;refine (hinf _).mono ?_;rintro e w' ⟨rfl,rfl⟩) | (go_at_call 119;refine (hful _).mono ?_;rintro e w' ⟨rfl,rfl⟩))
      refine wp_region_grow (by kernel_rfl) (by kernel_rfl) (fun ι _ G hG hall=>?_)
      have c0:∀ n,(G n).cell? ⟨w.heap.size + 1,0,none⟩ = some (.int .i64 53):=fun n=>gkeep (hG n) (by simp [go_sem,World.cell?_alloc_past])
      have c1:∀ n,(G n).cell? ⟨w.heap.size + 1,1,none⟩ = some (.int .i64 (-1074)):=fun n=>gkeep (hG n) (by simp [go_sem,World.cell?_alloc_past])
      have c2:∀ n,(G n).cell? ⟨w.heap.size + 1,2,none⟩ = some (.int .i64 971):=fun n=>gkeep (hG n) (by simp [go_sem,World.cell?_alloc_past])
      repeat (go_big_quiet_step (exact (hful _).mono (fun e w' h=>⟨h.1,hall _ (by rw [h.2];exact (hG _).alloc _ _)⟩)))
      refine wpQuiet_nil ?_
      rintro _ ⟨nq,rfl⟩
      have gq:=hG nq
      clear c0 c1 c2 hall
      go_wp2
      exact bodyPost_ret (v:=.tuple #[.bool false,.int .u64 (R - U * B),.int .i64 (-1074 + U),.bool true]) (by simp [results,Tryz.results91,go_sem] <;> simp only [*]) rfl ⟨rfl,(by repeat (with_reducible (first | assumption | exact Grown.refl _ | apply Grown.drew | apply Grown.alloc | apply gdrewN | (refine gtrans ?_ (by assumption)))))⟩
    · skip
      go_enter Tryz.func91,Tryz.ntmps91
      go_wp2_with (first | (go_at_call 115;refine (lay_d _).mono ?_;rintro e w' ⟨rfl,rfl⟩) | (go_at_call 118;refine (hpat _).mono ?_;rintro e w' ⟨rfl,rfl⟩) | (go_at_call 116;refine (hinf _).mono ?_;rintro e w' ⟨rfl,rfl⟩) | (go_at_call 119;refine (hful _).mono ?_;rintro e w' ⟨rfl,rfl⟩))
      refine wp_region_grow (by kernel_rfl) (by kernel_rfl) (fun ι _ G hG hall=>?_)
      have c0:∀ n,(G n).cell? ⟨w.heap.size + 1,0,none⟩ = some (.int .i64 53):=fun n=>gkeep (hG n) (by simp [go_sem,World.cell?_alloc_past])
      have c1:∀ n,(G n).cell? ⟨w.heap.size + 1,1,none⟩ = some (.int .i64 (-1074)):=fun n=>gkeep (hG n) (by simp [go_sem,World.cell?_alloc_past])
      have c2:∀ n,(G n).cell? ⟨w.heap.size + 1,2,none⟩ = some (.int .i64 971):=fun n=>gkeep (hG n) (by simp [go_sem,World.cell?_alloc_past])
      repeat (go_big_quiet_step (exact (hful _).mono (fun e w' h=>⟨h.1,hall _ (by rw [h.2];exact (hG _).alloc _ _)⟩)))
      refine wpQuiet_nil ?_
      rintro _ ⟨nq,rfl⟩
      have gq:=hG nq
      clear c0 c1 c2 hall
      go_wp2
      exact bodyPost_ret (v:=.tuple #[.bool true,.int .u64 (R - U * B),.int .i64 (-1074 + U),.bool true]) (by simp [results,Tryz.results91,go_sem] <;> simp only [*]) rfl ⟨rfl,(by repeat (with_reducible (first | assumption | exact Grown.refl _ | apply Grown.drew | apply Grown.alloc | apply gdrewN | (refine gtrans ?_ (by assumption)))))⟩

end Fq
end Go.Proofs.YtnileplkkmhdgaaGreatDoor
