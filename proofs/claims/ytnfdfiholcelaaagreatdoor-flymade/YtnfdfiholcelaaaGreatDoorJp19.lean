import Derived.Deep.SlicePairs
import Derived.Test.YtnfdfiholcelaaaGreatDoorJp13
import Derived.Test.YtnfdfiholcelaaaGreatDoorJp16
set_option maxRecDepth 100000
set_option maxHeartbeats 20000000
namespace Go.Proofs.YtnfdfiholcelaaaGreatDoor
open Go.ChangeShapes Go.WideShapes Go.ChangeAt Go.RowKit Go.Joins Go.Deep Tryz
set_option linter.unusedVariables false
theorem saddr_add(b off n:Nat):(⟨b,off,none⟩:Addr).add n=⟨b,off+n,none⟩:=by unfold Addr.add;split<;>simp_all
theorem open_ils{H:Type}{enc:TypeId×Value→H}{w:World}{base:Nat}{n:Nat}{v:Value}{y:DataW H×List MemPlace}(h:DataW.trod enc prog w base (fun _=>true) true n 22 [v]=some y):
 ∃(a:Option Addr) (l:List Int) (cap:Nat),v=.slice a l.length cap∧l.length≤9223372036854775807∧ILs w a l∧∀x∈l,-9223372036854775808≤x∧x≤9223372036854775807:=by
 rcases open_ints underlying22 underlying3 (by kernel_rfl) h with⟨hcs,_⟩|⟨x,len,cap,zs,hcs,_,hl,hm,hz,_,hcell,hwz⟩
 · simp at hcs
   exact⟨none,[],0,by simpa using hcs,by simp,.inl rfl,by simp⟩
 · simp at hcs hz
   have hlen:(zs.take len).length=len:=by simp;omega
   refine⟨some x,zs.take len,cap,by rw[hlen];exact hcs,by rw[hlen];unfold maxLen at hm;omega,?_,fun z hzm=>?_⟩
   · by_cases h0:len=0
     · left;subst h0;rfl
     · right
       obtain⟨b,off,spot⟩:=x;have hc:=hcell 0 (by omega)
       have hspot:spot=none:=by simpa[Addr.add] using World.cell?_spot hc
       subst hspot;refine⟨b,off,rfl,fun k hk=>?_⟩;rw[hlen] at hk;have q:=hcell k (by omega);rw[saddr_add] at q
       show w.cell? _=_
       rw[q,List.getD_eq_getElem?_getD,List.getD_eq_getElem?_getD,List.getElem?_take,if_pos hk]
   · exact bounds_i64 (hwz z (List.mem_of_mem_take hzm))
end Go.Proofs.YtnfdfiholcelaaaGreatDoor
