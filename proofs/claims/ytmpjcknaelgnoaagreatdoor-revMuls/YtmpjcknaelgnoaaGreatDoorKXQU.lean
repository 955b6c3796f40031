import Derived.Test.YtmpjcknaelgnoaaGreatDoorKQA
set_option maxHeartbeats 2000000
set_option maxRecDepth 20000
namespace Go.Proofs.YtmpjcknaelgnoaaGreatDoor
open Go.RowKit Tryz
namespace Fq

theorem ej {P:Program}{id:Nat}{Q:Exit->Act->World->Prop}{a:Act}{w:World}{l:List Oper}(hm:P.follows .mixedOrders=true)(hB:Region.lexB .any l.toArray=true)
  (h:∀(ι:Type)(_:Nonempty ι)(G:ι->World),(∀n,Grown w (G n))->(∀w',Grown w w'->∃n,w'=G n)->wpQuiet P l.toArray (fun w'=>∃n,w'=G n) (fun a'=>∀w',(∃n,w'=G n)->Q .normal a' w') l a) :
  (Code.region id l.toArray true).wp P Q a w:=by
 have b:=h {w':World // Grown w w'} ⟨⟨w,Grown.refl w⟩⟩ Subtype.val (fun n=>n.2) (fun w' hw=>⟨⟨w',hw⟩,rfl⟩)
 exact wp_region_quiet (C:=fun w'=>∃n:{w':World // Grown w w'},w'=n.val) hm hB ⟨⟨_,(Grown.refl w).drew⟩,rfl⟩ (by simpa using b)
end Fq
namespace Fq
theorem Gs (n:Bool)(m:Nat)(hm:m<9218868437227405312)(w:World):Calls prog 207 #[.float .f64 (wD n m)] w fun e w'=>e=.returned (.tuple #[.bool (n && !(m == 0)),.int .u64 ((uy m:Nat):Int),.int .i64 (vi m),.bool true])∧Grown w w':=by
 have b:=xj n m (by omega)
 obtain⟨I,s⟩:∃I:Int,I=9218868437227405312:=⟨_,rfl⟩
 have c:∀w:World,Calls prog 237 #[.agg #[.int .i64 53,.int .i64 (-1074),.int .i64 971]] w fun e w'=>e=.returned (.int .i64 I)∧w'=((w.alloc (.cells #[.int .i64 53,.int .i64 (-1074),.int .i64 971] 187)).alloc (.cells #[.int .i64 53,.int .i64 (-1074),.int .i64 971] 187)).drew:=by rw[s];exact mT
 obtain⟨B,l⟩:∃B:Int,B=4503599627370496:=⟨_,rfl⟩
 have a:∀w:World,Calls prog 240 #[.agg #[.int .i64 53,.int .i64 (-1074),.int .i64 971]] w fun e w'=>e=.returned (.int .i64 B)∧w'=w.alloc (.cells #[.int .i64 53,.int .i64 (-1074),.int .i64 971] 187):=by rw[l];exact sp
 have z:¬(I<=(m:Int)):=by omega
 have H:¬B=0:=by omega
 obtain⟨R,f⟩:∃R:Int,R=(m:Int):=⟨_,rfl⟩
 rw[<-f]at b z
 obtain⟨U,D⟩:∃U:Int,wrap64 (wrap64 (R.tdiv B)-1)=U:=⟨_,rfl⟩
 have d:U=(m:Int)/4503599627370496-1:=by
  rw[<-D,f,l,Int.tdiv_eq_ediv_of_nonneg (by omega),il (x:=(m:Int)/4503599627370496) (by omega) (by omega),il (by omega) (by omega)]
 by_cases cB:m<4503599627370496
 ·have C:U<0:=by omega
  have p:((uy m:Nat):Int)=R:=by rw[f];unfold uy Cm;(repeat' split)<;>omega
  have o:vi m = -1074:=by unfold vi DS;(repeat' split)<;>omega
  have y:IntKind.u64.wrap R=R:=by rw[f,vK (by omega) (by omega)]
  have t:wrap64 R=R:=by rw[f,il (by omega) (by omega)]
  have E:IntKind.i64.wrap R=R:=by rw[IntWalk.i64_left];exact t
  rw[p,o]
  by_cases r:m=0
  ·have u:(R != 0)=false:=by rw[f];simp;omega
   have k:(n && !(m == 0))=false:=by simp[r]
   rw[k]
   clear s l f hm d cB p o k r
   cases n
   ·skip
    go_enter func207,ntmps207
    go_wp2_with (first|(go_at_call 236;refine(gM _).mono ?_;rintro e w' ⟨rfl,rfl⟩)|(go_at_call 239;refine(b _).mono ?_;rintro e w' ⟨rfl,rfl⟩)|(go_at_call 237;refine(c _).mono ?_;rintro e w' ⟨rfl,rfl⟩)|(go_at_call 240;refine(a _).mono ?_;rintro e w' ⟨rfl,rfl⟩))
    refine ej (by kernel_rfl) (by kernel_rfl) (fun ι _ G hG hall=>?_)
    have i:∀n,(G n).cell? ⟨w.heap.size+1,0,none⟩=some (.int .i64 53):=fun n=>ft (hG n) (by simp[go_sem,World.cell?_alloc_past])
    have j:∀n,(G n).cell? ⟨w.heap.size+1,1,none⟩=some (.int .i64 (-1074)):=fun n=>ft (hG n) (by simp[go_sem,World.cell?_alloc_past])
    have c2:∀n,(G n).cell? ⟨w.heap.size+1,2,none⟩=some (.int .i64 971):=fun n=>ft (hG n) (by simp[go_sem,World.cell?_alloc_past])
    repeat(go_big_quiet_step (exact(a _).mono (fun e w' h=>⟨h.1,hall _ (by rw[h.2];exact(hG _).alloc _ _)⟩)))
    refine wpQuiet_nil ?_
    rintro _ ⟨g,rfl⟩
    have q:=hG g
    clear i j c2 hall
    go_wp2
    exact bodyPost_ret (v:=.tuple #[.bool false,.int .u64 R,.int .i64 (-1074),.bool true]) (by simp[results,results207,go_sem]<;>simp only[*]) rfl ⟨rfl,(by repeat(with_reducible(first|exact Grown.refl _|apply Grown.drew|apply Grown.alloc|(refine iC ?_ (by assumption)))))⟩
   ·skip
    go_enter func207,ntmps207
    go_wp2_with (first|(go_at_call 236;refine(gM _).mono ?_;rintro e w' ⟨rfl,rfl⟩)|(go_at_call 239;refine(b _).mono ?_;rintro e w' ⟨rfl,rfl⟩)|(go_at_call 237;refine(c _).mono ?_;rintro e w' ⟨rfl,rfl⟩)|(go_at_call 240;refine(a _).mono ?_;rintro e w' ⟨rfl,rfl⟩))
    refine ej (by kernel_rfl) (by kernel_rfl) (fun ι _ G hG hall=>?_)
    have i:∀n,(G n).cell? ⟨w.heap.size+1,0,none⟩=some (.int .i64 53):=fun n=>ft (hG n) (by simp[go_sem,World.cell?_alloc_past])
    have j:∀n,(G n).cell? ⟨w.heap.size+1,1,none⟩=some (.int .i64 (-1074)):=fun n=>ft (hG n) (by simp[go_sem,World.cell?_alloc_past])
    have c2:∀n,(G n).cell? ⟨w.heap.size+1,2,none⟩=some (.int .i64 971):=fun n=>ft (hG n) (by simp[go_sem,World.cell?_alloc_past])
    repeat(go_big_quiet_step (exact(a _).mono (fun e w' h=>⟨h.1,hall _ (by rw[h.2];exact(hG _).alloc _ _)⟩)))
    refine wpQuiet_nil ?_
    rintro _ ⟨g,rfl⟩
    have q:=hG g
    clear i j c2 hall
    go_wp2
    exact bodyPost_ret (v:=.tuple #[.bool false,.int .u64 R,.int .i64 (-1074),.bool true]) (by simp[results,results207,go_sem]<;>simp only[*]) rfl ⟨rfl,(by repeat(with_reducible(first|exact Grown.refl _|apply Grown.drew|apply Grown.alloc|(refine iC ?_ (by assumption)))))⟩
  ·have u:(R != 0)=true:=by rw[f];simp;omega
   have k:(n && !(m == 0))=n:=by simp[r]
   rw[k]
   clear s l f hm d cB p o k r
   cases n
   ·skip
    go_enter func207,ntmps207
    go_wp2_with (first|(go_at_call 236;refine(gM _).mono ?_;rintro e w' ⟨rfl,rfl⟩)|(go_at_call 239;refine(b _).mono ?_;rintro e w' ⟨rfl,rfl⟩)|(go_at_call 237;refine(c _).mono ?_;rintro e w' ⟨rfl,rfl⟩)|(go_at_call 240;refine(a _).mono ?_;rintro e w' ⟨rfl,rfl⟩))
    refine ej (by kernel_rfl) (by kernel_rfl) (fun ι _ G hG hall=>?_)
    have i:∀n,(G n).cell? ⟨w.heap.size+1,0,none⟩=some (.int .i64 53):=fun n=>ft (hG n) (by simp[go_sem,World.cell?_alloc_past])
    have j:∀n,(G n).cell? ⟨w.heap.size+1,1,none⟩=some (.int .i64 (-1074)):=fun n=>ft (hG n) (by simp[go_sem,World.cell?_alloc_past])
    have c2:∀n,(G n).cell? ⟨w.heap.size+1,2,none⟩=some (.int .i64 971):=fun n=>ft (hG n) (by simp[go_sem,World.cell?_alloc_past])
    repeat(go_big_quiet_step (exact(a _).mono (fun e w' h=>⟨h.1,hall _ (by rw[h.2];exact(hG _).alloc _ _)⟩)))
    refine wpQuiet_nil ?_
    rintro _ ⟨g,rfl⟩
    have q:=hG g
    clear i j c2 hall
    go_wp2
    exact bodyPost_ret (v:=.tuple #[.bool false,.int .u64 R,.int .i64 (-1074),.bool true]) (by simp[results,results207,go_sem]<;>simp only[*]) rfl ⟨rfl,(by repeat(with_reducible(first|exact Grown.refl _|apply Grown.drew|apply Grown.alloc|(refine iC ?_ (by assumption)))))⟩
   ·skip
    go_enter func207,ntmps207
    go_wp2_with (first|(go_at_call 236;refine(gM _).mono ?_;rintro e w' ⟨rfl,rfl⟩)|(go_at_call 239;refine(b _).mono ?_;rintro e w' ⟨rfl,rfl⟩)|(go_at_call 237;refine(c _).mono ?_;rintro e w' ⟨rfl,rfl⟩)|(go_at_call 240;refine(a _).mono ?_;rintro e w' ⟨rfl,rfl⟩))
    refine ej (by kernel_rfl) (by kernel_rfl) (fun ι _ G hG hall=>?_)
    have i:∀n,(G n).cell? ⟨w.heap.size+1,0,none⟩=some (.int .i64 53):=fun n=>ft (hG n) (by simp[go_sem,World.cell?_alloc_past])
    have j:∀n,(G n).cell? ⟨w.heap.size+1,1,none⟩=some (.int .i64 (-1074)):=fun n=>ft (hG n) (by simp[go_sem,World.cell?_alloc_past])
    have c2:∀n,(G n).cell? ⟨w.heap.size+1,2,none⟩=some (.int .i64 971):=fun n=>ft (hG n) (by simp[go_sem,World.cell?_alloc_past])
    repeat(go_big_quiet_step (exact(a _).mono (fun e w' h=>⟨h.1,hall _ (by rw[h.2];exact(hG _).alloc _ _)⟩)))
    refine wpQuiet_nil ?_
    rintro _ ⟨g,rfl⟩
    have q:=hG g
    clear i j c2 hall
    go_wp2
    exact bodyPost_ret (v:=.tuple #[.bool true,.int .u64 R,.int .i64 (-1074),.bool true]) (by simp[results,results207,go_sem]<;>simp only[*]) rfl ⟨rfl,(by repeat(with_reducible(first|exact Grown.refl _|apply Grown.drew|apply Grown.alloc|(refine iC ?_ (by assumption)))))⟩
 ·have C:¬(U<0):=by omega
  have p:((uy m:Nat):Int)=R-U*B:=by rw[d,l,f];unfold uy Cm;(repeat' split)<;>omega
  have o:vi m = -1074+U:=by rw[d];unfold vi DS;(repeat' split)<;>omega
  have y:IntKind.u64.wrap (wrap64 (R-wrap64 (U*B)))=R-U*B:=by
   rw[d,l,f,il (x:=((m:Int)/4503599627370496-1)*4503599627370496) (by omega) (by omega),il (by omega) (by omega),vK (by omega) (by omega)]
  have t:wrap64 (-1074+U) = -1074+U:=by rw[il (by omega) (by omega)]
  have E:IntKind.u64.wrap (IntKind.i64.wrap (R-IntKind.i64.wrap (U*B)))=R-U*B:=by rw[IntWalk.i64_left,IntWalk.i64_left];exact y
  have J:IntKind.i64.wrap (-1074+U) = -1074+U:=by rw[IntWalk.i64_left];exact t
  have A:wrap64 U=U:=by rw[d,il (by omega) (by omega)]
  have F:IntKind.i64.wrap U=U:=by rw[IntWalk.i64_left];exact A
  rw[p,o]
  have u:(R != 0)=true:=by rw[f];simp;omega
  have k : (n && !(m == 0)) = n := by have : ¬ m = 0 := by omega
                                      simp[this]
  rw[k]
  clear s l f hm d cB p o k
  cases n
  ·skip
   go_enter func207,ntmps207
   go_wp2_with (first|(go_at_call 236;refine(gM _).mono ?_;rintro e w' ⟨rfl,rfl⟩)|(go_at_call 239;refine(b _).mono ?_;rintro e w' ⟨rfl,rfl⟩)|(go_at_call 237;refine(c _).mono ?_;rintro e w' ⟨rfl,rfl⟩)|(go_at_call 240;refine(a _).mono ?_;rintro e w' ⟨rfl,rfl⟩))
   refine ej (by kernel_rfl) (by kernel_rfl) (fun ι _ G hG hall=>?_)
   have i:∀n,(G n).cell? ⟨w.heap.size+1,0,none⟩=some (.int .i64 53):=fun n=>ft (hG n) (by simp[go_sem,World.cell?_alloc_past])
   have j:∀n,(G n).cell? ⟨w.heap.size+1,1,none⟩=some (.int .i64 (-1074)):=fun n=>ft (hG n) (by simp[go_sem,World.cell?_alloc_past])
   have c2:∀n,(G n).cell? ⟨w.heap.size+1,2,none⟩=some (.int .i64 971):=fun n=>ft (hG n) (by simp[go_sem,World.cell?_alloc_past])
   repeat(go_big_quiet_step (exact(a _).mono (fun e w' h=>⟨h.1,hall _ (by rw[h.2];exact(hG _).alloc _ _)⟩)))
   refine wpQuiet_nil ?_
   rintro _ ⟨g,rfl⟩
   have q:=hG g
   clear i j c2 hall
   go_wp2
   exact bodyPost_ret (v:=.tuple #[.bool false,.int .u64 (R-U*B),.int .i64 (-1074+U),.bool true]) (by simp[results,results207,go_sem]<;>simp only[*]) rfl ⟨rfl,(by repeat(with_reducible(first|exact Grown.refl _|apply Grown.drew|apply Grown.alloc|(refine iC ?_ (by assumption)))))⟩
  ·skip
   go_enter func207,ntmps207
   go_wp2_with (first|(go_at_call 236;refine(gM _).mono ?_;rintro e w' ⟨rfl,rfl⟩)|(go_at_call 239;refine(b _).mono ?_;rintro e w' ⟨rfl,rfl⟩)|(go_at_call 237;refine(c _).mono ?_;rintro e w' ⟨rfl,rfl⟩)|(go_at_call 240;refine(a _).mono ?_;rintro e w' ⟨rfl,rfl⟩))
   refine ej (by kernel_rfl) (by kernel_rfl) (fun ι _ G hG hall=>?_)
   have i:∀n,(G n).cell? ⟨w.heap.size+1,0,none⟩=some (.int .i64 53):=fun n=>ft (hG n) (by simp[go_sem,World.cell?_alloc_past])
   have j:∀n,(G n).cell? ⟨w.heap.size+1,1,none⟩=some (.int .i64 (-1074)):=fun n=>ft (hG n) (by simp[go_sem,World.cell?_alloc_past])
   have c2:∀n,(G n).cell? ⟨w.heap.size+1,2,none⟩=some (.int .i64 971):=fun n=>ft (hG n) (by simp[go_sem,World.cell?_alloc_past])
   repeat(go_big_quiet_step (exact(a _).mono (fun e w' h=>⟨h.1,hall _ (by rw[h.2];exact(hG _).alloc _ _)⟩)))
   refine wpQuiet_nil ?_
   rintro _ ⟨g,rfl⟩
   have q:=hG g
   clear i j c2 hall
   go_wp2
   exact bodyPost_ret (v:=.tuple #[.bool true,.int .u64 (R-U*B),.int .i64 (-1074+U),.bool true]) (by simp[results,results207,go_sem]<;>simp only[*]) rfl ⟨rfl,(by repeat(with_reducible(first|exact Grown.refl _|apply Grown.drew|apply Grown.alloc|(refine iC ?_ (by assumption)))))⟩

end Fq
end Go.Proofs.YtmpjcknaelgnoaaGreatDoor
