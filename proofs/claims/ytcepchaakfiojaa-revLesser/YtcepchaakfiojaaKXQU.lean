import Derived.Test.YtcepchaakfiojaaKQA
namespace Go.Proofs.Ytcepchaakfiojaa
open Go.RowKit
namespace Fq

theorem wp_region_grow {P:Program} {id:Nat} {Q:Exit→Act→World→Prop} {a:Act} {w:World} {l:List Oper} (hm:P.follows .mixedOrders = true) (hB:Region.lexB .any l.toArray = true)
    (h:∀ (ι:Type) (_:Nonempty ι) (G:ι→World),(∀ n,Grown w (G n))→(∀ w',Grown w w'→∃ n,w' = G n)→wpQuiet P l.toArray (fun w'=>∃ n,w' = G n) (fun a'=>∀ w',(∃ n,w' = G n)→Q .normal a' w') l a) :
    (Code.region id l.toArray true).wp P Q a w:=by
  have hh:=h {w':World // Grown w w'} ⟨⟨w,Grown.refl w⟩⟩ Subtype.val (fun n=>n.2) (fun w' hw=>⟨⟨w',hw⟩,rfl⟩)
  exact wp_region_quiet (C:=fun w'=>∃ n:{w':World // Grown w w'},w' = n.val) hm hB ⟨⟨_,(Grown.refl w).drew⟩,rfl⟩ (by simpa using hh)
end Fq
end Go.Proofs.Ytcepchaakfiojaa
