import Derived.Test.YtcepchaakfiojaaKLN
import Derived.Test.YtcepchaakfiojaaKXY
import Derived.Deep.RegionHeld3
import Derived.Laws.Slices
namespace Go.Proofs.Ytcepchaakfiojaa
open Go.RowKit
def Ls (w:World) (v:Value) (L:List Int):Prop:=∃ p c,v = .slice p L.length c∧Arr w p L∧L.length≤c
theorem Ls.kp {w w':World} {v:Value} {L:List Int} (h:Ls w v L) (k:Kp w w'):Ls w' v L:=by
  obtain ⟨p,c,e,hA,hc⟩:=h
  exact ⟨p,c,e,hA.grown k,hc⟩
theorem Own.ls {w:World} {base:Nat} {v:Value} {L:List Int} (h:Own w base v L):Ls w v L:=by
  obtain ⟨p,c,e,hA,hc⟩:=h.arr
  exact ⟨p,c,e,hA,hc⟩
theorem dlen (a K:Nat) (h:blen a≤32 * K):(dig a).length≤K:=by
  have h1:=(blen_le_iff a (32 * K)).1 h
  rw [← pow32] at h1
  by_cases c:(dig a).length≤K
  · exact c
  · exfalso
    have:=len32_lt a K (by unfold len32;omega)
    omega
theorem val_zeros (zs:List Int) (h:∀ j,zs.getD j 0 = 0):val zs = 0:=by
  induction zs with
  | nil=>rfl
  | cons z r ih =>
    have h0:=h 0
    simp at h0
    have:=ih (fun j=>by have:=h (j + 1);simpa using this)
    simp [val,h0,this]
theorem Wd_rep0 (n:Nat):Wd (List.replicate n (0:Int)):=by
  intro j
  by_cases c:j < n
  · simp [List.getD,c]
  · simp [List.getD,c]
theorem rep0_getD (n j:Nat):(List.replicate n (0:Int)).getD j 0 = 0:=by
  by_cases c:j < n
  · simp [List.getD,c]
  · simp [List.getD,c]
end Go.Proofs.Ytcepchaakfiojaa
