import Derived.Shelf.SlSorted.Search
import Derived.Test.YtnepnnkdgejheaaGreatDoorKp02
set_option maxRecDepth 100000
set_option maxHeartbeats 20000000
namespace Go.Proofs.YtnepnnkdgejheaaGreatDoor
open Go.RowKit Go.Sort Tryz
variable {u w:V6}
def Gro(w u:V6):Prop:=∃q os,u=grow (w.drewN q) os
theorem Gro.refl(w:V6):Gro w w:=⟨0,#[],by rw[grow_empty];rfl⟩
theorem Gro.trans{v:V6}(h:Gro w u)(k:Gro u v):Gro w v:=by
 obtain⟨q,os,rfl⟩:=h;obtain⟨y,os',rfl⟩:=k;refine⟨q+y,os++os',?_⟩;rw[show(grow (w.drewN q) os).drewN y=grow ((w.drewN q).drewN y) os from rfl,grow_grow];rw[show(w.drewN q).drewN y=w.drewN (q+y) by simp[World.drewN,Nat.add_assoc]]
theorem Gro.alloc(h:Gro w u)(o:Obj):Gro w (u.alloc o):=h.trans ⟨0,#[o],by rw[alloc_eq_grow];rfl⟩
theorem Gro.drew(h:Gro w u):Gro w u.drew:=h.trans ⟨1,#[],by rw[grow_empty];rfl⟩
theorem Gro.below(h:Gro w u):Bw w u:=by
 obtain⟨q,os,rfl⟩:=h;exact below_grown_sl _ _ _ _ (Nat.le_refl _)
end Go.Proofs.YtnepnnkdgejheaaGreatDoor
