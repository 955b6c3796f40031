import Derived.Test.YtfhcmabejagknaaGreatDoorKTOu
set_option maxHeartbeats 600000
set_option maxRecDepth 20000
namespace Go.Proofs.YtfhcmabejagknaaGreatDoor
open Go.RowKit

theorem putS {w:World} {b:Nat} {ws:List Nat} {k:Nat} {s:Int} (h:Sb w b ws k s) (z:List Nat) (hz:z.length = 67):(storeCells ⟨b,0,none⟩ (wc z).toList 0).run Tryz.prog w = .ok () (w.setCells b 0 (wc z).toList):=by
  have:=storeS h z hz
  have hi:=infoW
  cases hq:Tryz.prog.info? 39 with
  | none=>simp [hq] at hi
  | some i =>
    have hs:(wc z).size = i.size:=by simp [hq] at hi;rw [wc_size,hz,hi]
    simpa [storeVar,sizeOf,typeInfo,hq,Value.cells,hs] using this
theorem neg_ (b:Nat) (ws:List Nat) (V:Int) (hV:Rep ws V) (k:Nat) (s:Int) (hs1:-5≤s) (hs2:s≤5) (w:World) (hS:Sb w b ws k s):Calls Tryz.prog 15 #[.pointer (some ⟨b,0,none⟩)] w fun e w'=>∃ z,(∃ v,e = .returned v)∧Sb w' b z k (if s = 2 then 2 else -s)∧Rep z (-V)∧Kb b w w':=by
  have htu:=turned_ ws V hV
  have hld:=loadS hS
  by_cases c:s = 2
  · rw [if_pos c]
    subst c
    go_enter Tryz.func15,Tryz.ntmps15
    go_upto_region 0 with fail
    refine wp_region_list ?_
    refine wpl_val rfl _ rfl ?_
    refine wpl_val rfl _ rfl ?_
    refine wpl_val rfl _ rfl ?_
    refine wpl_field rfl _ _ _ rfl _ _ rfl (fa0 b _) ?_
    refine wpl_load rfl 39 _ rfl b 0 rfl _ hld ?_
    go_wp2_with (first | (go_at_call 45;refine (htu _).mono ?_;rintro e w1 ⟨z,rfl,hz,g1⟩;have h1:=hS.kp g1;have hst:=putS h1 z hz.1;have hzs:(wc z).size = 67:=(by rw [wc_size,hz.1]);have h2:=h1.setW z hz.1;have c1:=h2.state;have f1:=h2.2.frozen 68;have kb:Kb b w (w1.setCells b 0 (wc z).toList):=Kb.cellsTo b _ 0 w w1 (Kb.of g1)))
    exact bodyPost_end (v:=.tuple #[]) (by kernel_rfl) rfl (by first | exact ⟨⟨_,rfl⟩,z,h2,hz,kb⟩ | exact ⟨z,⟨_,rfl⟩,h2,hz,kb⟩)
  · rw [if_neg c]
    have t2:(s != 2) = true:=by simpa using c
    have hw:wrap64 (-s) = -s:=by unfold wrap64;omega
    clear hs1 hs2 c
    go_enter Tryz.func15,Tryz.ntmps15
    go_upto_region 0 with fail
    refine wp_region_list ?_
    refine wpl_val rfl _ rfl ?_
    refine wpl_val rfl _ rfl ?_
    refine wpl_val rfl _ rfl ?_
    refine wpl_field rfl _ _ _ rfl _ _ rfl (fa0 b _) ?_
    refine wpl_load rfl 39 _ rfl b 0 rfl _ hld ?_
    go_wp2_with (first | (go_at_call 45;refine (htu _).mono ?_;rintro e w1 ⟨z,rfl,hz,g1⟩;have h1:=hS.kp g1;have hst:=putS h1 z hz.1;have hzs:(wc z).size = 67:=(by rw [wc_size,hz.1]);have h2:=h1.setW z hz.1;have c1:=h2.state;have f1:=h2.2.frozen 68;have kb:Kb b w (w1.setCells b 0 (wc z).toList):=Kb.cellsTo b _ 0 w w1 (Kb.of g1)))
    have h3:=h2.setState (-s)
    have k3:=kb.setCell 68 (.int .i64 (-s))
    exact bodyPost_end (v:=.tuple #[]) (by kernel_rfl) rfl (by first | exact ⟨⟨_,rfl⟩,z,h3,hz,k3⟩ | exact ⟨z,⟨_,rfl⟩,h3,hz,k3⟩)
end Go.Proofs.YtfhcmabejagknaaGreatDoor
