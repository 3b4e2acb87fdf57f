/-
  For all raw numbers (a hundred of each at most, else it is passed by) the law FlyMade returns true: program and document say the same of the made flight, its faults, steps and reports. Condition: the listed variable lies as the row says.
-/
import Derived.Test.YtnfdfiholcelaaaGreatDoorCards
import Derived.Test.YtnfdfiholcelaaaGreatDoorTie
import Derived.ChangeSame
import Derived.ChangeVars
import Derived.JoinedOf
import Derived.RowKit
import Derived.LaidLaws
import Derived.LaidHandle
import Derived.Stop.Joined
import Derived.Test.YtnfdfiholcelaaaGreatDoorJp19
import Derived.Test.YtnfdfiholcelaaaGreatDoorJp41
namespace Go.Proofs.YtnfdfiholcelaaaGreatDoor.flyMade
open Go.ChangeShapes Go.WideShapes Go.ChangeAt Go.RowKit Go.Joins Plain
set_option linter.unusedVariables false

theorem own:ownKnob Tryz.prog.godebug=none:=by kernel_rfl
theorem laidOut:laidOutB Tryz.prog=true:=by kernel_rfl
theorem et:Tryz.prog.globalNamed "errors.errorType" =some 0:=by kernel_rfl
theorem rt:(Tryz.prog.cutTypes.find? (·.1== "internal/reflectlite.rtype")).map (·.2)=some 293:=by kernel_rfl
theorem oneRow:((List.range Tryz.prog.types.size).filter fun t=>Tryz.prog.rowNamed t [101,114,114,111,114])=[51]:=by kernel_rfl
theorem gv_of_laid {W:World} (h:laidMetH Tryz.prog Rows.flyMadeRow.laid W):GV W:=by
  have h':laidMet Tryz.prog [] W∧handlesMet Tryz.prog Rows.flyMadeRow.laid W:=h
  obtain⟨name,u,ty,e1,e2,e3,e4,e5⟩:=h'.2 _ (List.mem_singleton.2 rfl)
  have en:name=[101,114,114,111,114]:=(Option.some.inj e1).symm
  subst en
  obtain rfl:=Option.some.inj (rt.symm.trans e2)
  have hm:ty∈(List.range Tryz.prog.types.size).filter fun t=>Tryz.prog.rowNamed t [101,114,114,111,114]:=List.mem_filter.2 ⟨List.mem_range.2 e3,e4⟩
  rw[oneRow] at hm
  obtain rfl:=List.mem_singleton.1 hm
  have hh:typeHandle Tryz.prog 51=.pointer (some ⟨1,51,none⟩):=by kernel_rfl
  rw[hh] at e5
  unfold GV
  simpa using World.var?_cell et e5 0
noncomputable def laidWorld (os:Os):World:=
  let w0:=World.holding Tryz.prog os ⟨#[],#[],[]⟩
  { w0 with heap:=w0.heap.modify 0 fun
      |.cells _ t frozen=>.cells #[.iface 293 (.agg #[.pointer (some ⟨1,51,none⟩)])] t frozen
      |o=>o }
theorem laidWorld_met (os:Os) (args:Array Value):laidMetH Tryz.prog Rows.flyMadeRow.laid ((laidWorld os).forCall (fun _ _=>0) ⟨#[],args,[]⟩).memory:=
  laidMetH_of_parts (laidMet_nil _ _) (by kernel_rfl)

set_option maxHeartbeats 2000000 in
set_option maxRecDepth 100000 in
theorem lifted (os:Os) (started:os.Started) (H:Type) (enc:TypeId×Value→H):
    ReturnsInHanded {} Tryz.checked os 6 .any (fun w args=>(Rows.flyMadeSpec.pre enc Tryz.prog Tryz.f6 [] false w args∧laidMetH Tryz.prog Rows.flyMadeRow.laid w)∧sizedMet enc Tryz.prog Tryz.f6 (OpenSpec.ofChange Rows.flyMadeSpec) false w args)
      (Rows.flyMadeSpec.post enc Tryz.prog Tryz.f6 false true false false):=by
  refine returnsInHanded_of_change_and (C:=Tryz.checked) (X:=fun w _=>laidMetH Tryz.prog Rows.flyMadeRow.laid w) (fun _ _ _ hh h=>h.of_heap hh) own started (by kernel_rfl) Tryz.func6
    (ChangeSpec.witness_at (enc:=enc) (C:=Tryz.checked) (os:=os) (X:=fun w _=>laidMetH Tryz.prog Rows.flyMadeRow.laid w) false (laidWorld os) #[.slice none 0 0,.slice none 0 0,.int .i64 0,.bool false] 8 rfl (by kernel_rfl) (by kernel_rfl) (by kernel_rfl) (by kernel_rfl) (by kernel_rfl) (laidWorld_met os _)) ?_
  intro W base args ds gs before hval0 hW _ _ hL _
  have hval:∀(j:Nat) t v,Tryz.f6.params[j]?=some t→args[j]?=some v→Value.okWide Tryz.prog W .any base t v:=hval0
  have hW':=hW
  obtain⟨p,q,hA0,hV,rfl,hfz,hnd⟩:=hW
  have hA:DataW.TrodAll enc Tryz.prog W 0 (fun _=>true) true Tryz.f6.params.toList args.toList ds p:=hA0
  rw[Tryz.params6] at hA hval
  obtain⟨v0,vs0,d0,ds0,p0,q0,hargs,rfl,rfl,h0,r0⟩:=trodAll_cons hA
  obtain⟨v1,vs1,d1,ds1,p1,q1,rfl,rfl,rfl,h1,r1⟩:=trodAll_cons r0
  obtain⟨v2,vs2,d2,ds2,p2,q2,rfl,rfl,rfl,h2,r2⟩:=trodAll_cons r1
  obtain⟨v3,vs3,d3,ds3,p3,q3,rfl,rfl,rfl,h3,r3⟩:=trodAll_cons r2
  obtain⟨rfl,rfl,rfl⟩:=trodAll_nil r3
  obtain rfl:args=#[v0,v1,v2,v3]:=by cases args;simp_all
  obtain⟨rfl,rfl⟩:=trodVars_none hV
  have k0:=h0
  have lt0:∀x∈p0,x.block<W.heap.size:=by obtain⟨m,hm⟩:=k0;exact DataW.trod_lt m _ _ _ hm
  have ok0:=hval 0 22 v0 rfl rfl
  have k1:=h1
  have lt1:∀x∈p1,x.block<W.heap.size:=by obtain⟨m,hm⟩:=k1;exact DataW.trod_lt m _ _ _ hm
  have ok1:=hval 1 22 v1 rfl rfl
  have k2:=h2
  have lt2:∀x∈p2,x.block<W.heap.size:=by obtain⟨m,hm⟩:=k2;exact DataW.trod_lt m _ _ _ hm
  have ok2:=hval 2 3 v2 rfl rfl
  have k3:=h3
  have lt3:∀x∈p3,x.block<W.heap.size:=by obtain⟨m,hm⟩:=k3;exact DataW.trod_lt m _ _ _ hm
  have ok3:=hval 3 4 v3 rfl rfl
  obtain⟨f0,hf0⟩:=h0
  obtain⟨sa0,sn0,sc0,rfl⟩:=okWide_slice Tryz.underlying22 ok0
  obtain⟨a1,l1,c1,e0,hm0,hl0,w0⟩:=open_ils (v:=.slice sa0 sn0 sc0) (by simpa[Value.cells] using hf0)
  simp only[Value.slice.injEq] at e0
  obtain⟨rfl,rfl,rfl⟩:=e0
  obtain⟨f1,hf1⟩:=h1
  obtain⟨sa1,sn1,sc1,rfl⟩:=okWide_slice Tryz.underlying22 ok1
  obtain⟨a2,l2,c2,e1,hm1,hl1,w1⟩:=open_ils (v:=.slice sa1 sn1 sc1) (by simpa[Value.cells] using hf1)
  simp only[Value.slice.injEq] at e1
  obtain⟨rfl,rfl,rfl⟩:=e1
  obtain⟨many,rfl,rfl,rfl,wmany⟩:=open_int Tryz.underlying3 ok2 h2
  obtain⟨lo,rfl,rfl,rfl⟩:=open_bool Tryz.underlying4 ok3 h3
  clear hA0 hval0 hval
  refine(flyMade_walk _ l1 _ _ l2 _ many lo hm0 hm1 W (gv_of_laid hL) hl0 hl1).mono fun e W' ⟨he,bel⟩=>?_
  subst he
  exact⟨_,rfl,_,_,_,[],_,[],hW',trodAll_mk1 (shut_bool Tryz.underlying4 _),(trodAll_cons_mk (Below.trod laidOut (by kernel_rfl) (of_decide_eq_true (by kernel_rfl)) k0 bel lt0) (trodAll_cons_mk (Below.trod laidOut (by kernel_rfl) (of_decide_eq_true (by kernel_rfl)) k1 bel lt1) (trodAll_cons_mk (Below.trod laidOut (by kernel_rfl) (of_decide_eq_true (by kernel_rfl)) k2 bel lt2) (trodAll_cons_mk (Below.trod laidOut (by kernel_rfl) (of_decide_eq_true (by kernel_rfl)) k3 bel lt3) trodAll_mk0)))),rfl,bel.frame _,fun h=>by cases h⟩

theorem c1:(Rows.flyMadeRow.inPlace==Tryz.prog.inPlace 6)=true:=by kernel_rfl
theorem c2:(Rows.flyMadeRow.unfollowed==Tryz.prog.unfollowed 6)=true:=by kernel_rfl
theorem c3:(Rows.flyMadeRow.recurses==Tryz.prog.recurses 6)=true:=by kernel_rfl
theorem c4:(Rows.flyMadeRow.named==Tryz.prog.varsNamed 6)=true:=by kernel_rfl
theorem closed:joinedFacts Tryz.prog 6 Tryz.f6 Rows.flyMadeSpec Rows.flyMadeRow=true:=by
  unfold joinedFacts
  rw[c1,c2,c3,c4]
  kernel_rfl
theorem over:Rows.FlyMadeSaid:=
  OpenClaim.holds_of_wide 6 Tryz.f6 rfl rfl rfl rfl rfl rfl rfl ⟨rfl,rfl,rfl,rfl,rfl⟩ rfl rfl rfl rfl rfl (by kernel_rfl) Tryz.func6 closed
    (of_decide_eq_true (by kernel_rfl)) (by unfold Func.isWrapper;first|(rw[if_pos (by decide +kernel)];kernel_rfl)|(rw[if_neg (by decide +kernel)];exact⟨rfl,rfl⟩))
    (fun os started H enc _=>lifted os started H enc)
end Go.Proofs.YtnfdfiholcelaaaGreatDoor.flyMade

namespace Go.Proofs.YtnfdfiholcelaaaGreatDoor
open Go
theorem flyMade_card : Rows.FlyMadeCardSaid :=
  Claim7.holds_tied_plain_at .later [] [.handle] true (true, Rows.flyMadeCard.stood.harness.2) true
    flyMade.over (fun _ h => by cases h) (by kernel_rfl) (fun _ h => by cases h) flyMade_row_tie rfl ⟨rfl, rfl⟩ (by kernel_rfl) rfl
    (fun f fn hf hfn => by
      obtain rfl : f = 6 := Option.some.inj ((show Tryz.prog.funcNamed Tryz.f6.name = some 6 by kernel_rfl).symm.trans hf) |>.symm
      obtain rfl : fn = Tryz.f6 := (Option.some.inj (Tryz.func6.symm.trans hfn)).symm
      exact ⟨by kernel_rfl, fun j t ht => by
        rw [Tryz.params6] at ht
        rcases j with _ | _ | _ | _ | j
        · have h3 : t = 22 := by simpa using ht.symm
          subst h3
          exact (show Tryz.prog.wantsStandIn 22 = false by kernel_rfl)
        · have h3 : t = 22 := by simpa using ht.symm
          subst h3
          exact (show Tryz.prog.wantsStandIn 22 = false by kernel_rfl)
        · have h3 : t = 3 := by simpa using ht.symm
          subst h3
          exact (show Tryz.prog.wantsStandIn 3 = false by kernel_rfl)
        · have h3 : t = 4 := by simpa using ht.symm
          subst h3
          exact (show Tryz.prog.wantsStandIn 4 = false by kernel_rfl)
        · simp at ht⟩)
    (by kernel_rfl)
end Go.Proofs.YtnfdfiholcelaaaGreatDoor
