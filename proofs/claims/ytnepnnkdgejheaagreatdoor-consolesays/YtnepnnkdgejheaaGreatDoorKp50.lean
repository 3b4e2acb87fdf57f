import Derived.Test.YtnepnnkdgejheaaGreatDoorRows
import Derived.Test.YtnepnnkdgejheaaGreatDoorCards
import Derived.Test.YtnepnnkdgejheaaGreatDoorTie
import Derived.OpenShut
import Derived.ChangeOld
import Derived.ChangeSame
import Derived.ChangeVars
import Derived.JoinedOf
import Derived.RowKit
import Derived.LaidLaws
import Derived.LaidHandle
import Derived.Stop.Joined
import Derived.SevenTiedAt
import Derived.Stop.LaidErr
import Derived.Lib.LaidTab
import Derived.Shelf.Vars
import Derived.Lay
import Derived.ChangeMaps5
import Derived.Test.YtnepnnkdgejheaaGreatDoorKp49
set_option maxRecDepth 100000
set_option maxHeartbeats 20000000
namespace Go.Proofs.YtnepnnkdgejheaaGreatDoor.consoleSays
open Go.ChangeShapes Go.WideShapes Go.ChangeAt Go.RowKit Go.Joins Plain
set_option linter.unusedVariables false
theorem own:ownKnob Tryz.prog.godebug=none:=by kernel_rfl
theorem et:Tryz.prog.globalNamed "errors.errorType" =some 1:=by kernel_rfl
theorem rt:(Tryz.prog.cutTypes.find? (·.1== "internal/reflectlite.rtype")).map (·.2)=some 273:=by kernel_rfl
theorem Jq5:((List.range Tryz.prog.types.size).filter fun t=>Tryz.prog.rowNamed t [101,114,114,111,114])=[27]:=by kernel_rfl
def Jct:List (String×DataW Unit):=[("math/bits.deBruijn32tab",Rows.laid_math_bits_deBruijn32tab),("math/bits.deBruijn64tab",Rows.laid_math_bits_deBruijn64tab),("internal/strconv.uint64pow10",Rows.laid_internal_strconv_uint64pow10),("unicode/utf8.acceptRanges",Rows.laid_unicode_utf8_acceptRanges),("strconv.ErrRange",Rows.laid_strconv_ErrRange),("strconv.ErrSyntax",Rows.laid_strconv_ErrSyntax),("fulmar/console.errBad",Rows.laid_fulmar_console_errBad),("unicode/utf8.first",Rows.laid_unicode_utf8_first)]
theorem Jaa{W:V6}(h:handlesMet Tryz.prog [("errors.errorType",Rows.laid_errors_errorType)] W):GV W:=by
 obtain⟨name,u,ty,e1,e2,e3,e4,e5⟩:=h _ (List.mem_singleton.2 rfl);have en:name=[101,114,114,111,114]:=(Option.some.inj e1).symm;subst en;obtain rfl:=Option.some.inj (rt.symm.trans e2);have hm:ty∈(List.range Tryz.prog.types.size).filter fun t=>Tryz.prog.rowNamed t [101,114,114,111,114]:=List.mem_filter.2 ⟨List.mem_range.2 e3,e4⟩;rw[Jq5] at hm;obtain rfl:=List.mem_singleton.1 hm
 have hh:typeHandle Tryz.prog 27=Ve 10 27:=by kernel_rfl
 rw[hh] at e5
 unfold GV
 simpa using World.var?_cell et e5 0
theorem ge:Tryz.prog.globalNamed "fulmar/console.errBad" =some 0:=by kernel_rfl
theorem gt:(Tryz.prog.globals[0]?).map (·.type)=some 27:=by kernel_rfl
theorem pe:Tryz.prog.globalNamed "internal/strconv.uint64pow10" =some 5:=by kernel_rfl
theorem pt:(Tryz.prog.globals[5]?).map (·.type)=some 298:=by kernel_rfl
theorem Jsi: "*" ++ "errors.errorString" = "*errors.errorString" :=by decide
theorem Jsu(u:TypeId)(h:Tryz.prog.typeName? 3 u=some "*errors.errorString"):u=411:=
 typeName_ptr_named (nm:= "errors.errorString") (by rw[Jsi];kernel_rfl) (by kernel_rfl) (by decide) u (by rw[Jsi];exact h)
theorem Jfg{W:V6}(hsh:W.ShapedOpen Tryz.prog):∃m,V2 W 2 0 m:=
 cell_of_shapedOpen_int (t:=3) (zero:=#[Vi 0]) hsh (of_decide_eq_true (by kernel_rfl)) (by kernel_rfl) rfl (by kernel_rfl) (by kernel_rfl) Tryz.underlying3
theorem kg{W:V6}(hsh:W.ShapedOpen Tryz.prog):10<=W.heap.size:=by
 obtain⟨⟨zero,t⟩,h0⟩:=Option.isSome_iff_exists.1 (show(((begin Tryz.prog (fun _ _=>0) default).world.heap[10-1]?).bind Obj.row?).isSome=true by kernel_rfl);obtain⟨cs,hc,_⟩:=hsh.1 (10-1) zero t (of_decide_eq_true (by kernel_rfl)) h0;have:=(Array.getElem?_eq_some_iff.1 hc).1
 omega
theorem Jq6{W:V6}(h:laidMetH Tryz.prog Rows.consoleSaysRow.laid W):laidMet Tryz.prog Jct W/\handlesMet Tryz.prog [("errors.errorType",Rows.laid_errors_errorType)] W:=by
 have e1:(Rows.consoleSaysRow.laid.filter fun x=>x.2.handleName?.isSome)=[("errors.errorType",Rows.laid_errors_errorType)]:=by kernel_rfl
 have e2:(Rows.consoleSaysRow.laid.filter fun x=>x.2.handleName?.isNone)=Jct:=by kernel_rfl
 unfold laidMetH at h
 rw[e1,e2] at h;exact h
theorem Jsv:(Rows.laid_internal_strconv_uint64pow10:DataW Unit)=Lib.tabData .u64 Lib.pow10Tab:=by kernel_rfl
theorem Jsj{W:V6}(h:laidMetH Tryz.prog Rows.consoleSaysRow.laid W)(hsh:W.ShapedOpen Tryz.prog):∃a,GW W.heap.size a W:=by
 obtain⟨h1,hh⟩:=Jq6 h
 unfold Jct at h1
 have h2:=h1.tail.tail;rw[Jsv] at h2;have hp:Lib.TabIs Tryz.prog W "internal/strconv.uint64pow10" .u64 Lib.pow10Tab:=Lib.tabIs_of_head (k:=.u64) (zs:=Lib.pow10Tab) pe pt Tryz.underlying298 Tryz.underlying245 (by kernel_rfl) (by kernel_rfl) h2;have h6:=h2.tail.tail.tail.tail
 unfold Rows.laid_fulmar_console_errBad at h6
 obtain⟨a,s,hv,_⟩:=laid_sentinel h6 ge gt Tryz.underlying27 Jsu Tryz.underlying411 Tryz.underlying413 rfl rfl Tryz.underlying9 (by kernel_rfl) (by kernel_rfl);have hc:=World.var?_cell ge hv 0;exact⟨a,kg hsh,Nat.le_refl _,by simpa using hc,Jaa hh,Jfg hsh,Lib.tabBelow_of_tabIs hp⟩
noncomputable def laidWorld (os:Os):World:=
 let w0:=World.laidAll Tryz.prog os Jct
 { w0 with heap:=w0.heap.modify 1 fun
  |.cells _ t frozen=>.cells #[.iface 273 (.agg #[.pointer (some ⟨10,27,none⟩)])] t frozen
  |o=>o }
theorem MH(os:Os)(args:Array Value):laidMetH Tryz.prog Rows.consoleSaysRow.laid ((laidWorld os).forCall (fun _ _=>0) ⟨#[],args,[]⟩).memory:=
 laidMetH_of_parts (laidMet_of_run' 40 (by kernel_rfl) (by kernel_rfl)) (by kernel_rfl)
theorem Jq7{H:Type}{enc:TypeId×Value->H}{a:Assume}{C:Checked}{os:Os}{f:FuncId}{fn:Func}{s:ChangeSpec}{conds:List PathCond}{apart fresh handsOn again:Bool}{X:V6->Array Value->Prop}
 (hX:∀(w w':V6) (args:Array Value),w.heap=w'.heap->X w args->X w' args)
 (own:ownKnob C.prog.godebug=none) (started:os.Started) (noInit:C.prog.inits.idxOf? f=none) (hfn:C.prog.funcs[f]?=some fn)
 (witness:∃(w:V6) (tape:Tape) (i:Input),w.os=os/\(w.forCall tape i).Shaped C.prog/\i.vars=[]/\Input.okWide C.prog (w.forCall tape i) .any w.heap.size f i/\
  ((s.pre enc C.prog fn conds apart (w.forCall tape i).memory i.args/\X (w.forCall tape i).memory i.args)/\sizedMet enc C.prog fn (OpenSpec.ofChange s) apart (w.forCall tape i).memory i.args)/\a.holds C.prog (lone (Frame.enter C.prog f i.args .normal) [] (w.forCall tape i)))
 (contract:∀(W:V6) (base:Nat) (args:Array Value) (ds gs:List (DataW H)) (before:List MemPlace),
  (∀(j:Nat) t v,fn.params[j]?=some t->args[j]?=some v->Value.okWide C.prog W .any base t v)->
  DataW.Whole enc C.prog fn.params.toList s.vars apart W args.toList ds gs before->X W args->W.ShapedOpen C.prog->
  Calls C.prog f args W fun e W'=>∃v,e=.returned v/\s.post enc C.prog fn apart fresh handsOn again W args v W'):
 ReturnsInHanded a C os f .any (fun w args=>(s.pre enc C.prog fn conds apart w args/\X w args)/\sizedMet enc C.prog fn (OpenSpec.ofChange s) apart w args) (s.post enc C.prog fn apart fresh handsOn again):=by
 refine returnsInHanded_of_calls own started noInit witness ?_;intro w tape i _ hsh _ hok hpre _;obtain⟨_,_,_,fn',hfn',_,_,_,_,hval⟩:=hok;have e:fn'=fn:=Option.some.inj (hfn'.symm.trans hfn);subst e;obtain⟨⟨⟨ds,gs,before,hw,_⟩,hx⟩,_⟩:=hpre;have hw':=DataW.Whole.of_heap (w':=w.forCall tape i) (by rfl) hw;refine(contract (w.forCall tape i) w.heap.size i.args ds gs before hval hw' (hX _ _ _ (by rfl) hx) hsh).mono fun e W' ⟨v,he,hp⟩=>?_;subst he;exact ChangeSpec.post_blind hp
theorem lifted(os:Os)(started:os.Started)(H:Type)(enc:TypeId×Value->H):
 ReturnsInHanded {} Tryz.checked os 3 .any (fun w args=>(Rows.consoleSaysSpec.pre enc Tryz.prog Tryz.f3 [] false w args/\laidMetH Tryz.prog Rows.consoleSaysRow.laid w)/\sizedMet enc Tryz.prog Tryz.f3 (OpenSpec.ofChange Rows.consoleSaysSpec) false w args)
  (Rows.consoleSaysSpec.post enc Tryz.prog Tryz.f3 false true false false):=by
 refine Jq7 (C:=Tryz.checked) (X:=fun w _=>laidMetH Tryz.prog Rows.consoleSaysRow.laid w) (fun _ _ _ hh h=>h.of_heap hh) own started (by kernel_rfl) Tryz.func3
  (ChangeSpec.witness_at (enc:=enc) (C:=Tryz.checked) (os:=os) (X:=fun w _=>laidMetH Tryz.prog Rows.consoleSaysRow.laid w) false (laidWorld os) #[.string ⟨#[]⟩] 8 rfl (by kernel_rfl) (by kernel_rfl) (by kernel_rfl) (by kernel_rfl) (by kernel_rfl) (MH os _)) ?_
 intro W base args ds gs before hval0 hW hL hsh;have hval:∀(j:Nat) t v,Tryz.f3.params[j]?=some t->args[j]?=some v->Value.okWide Tryz.prog W .any base t v:=hval0;have hW':=hW;obtain⟨p,q,hA0,hV,rfl,hfz,hnd⟩:=hW;have hA:DataW.TrodAll enc Tryz.prog W 0 (fun _=>true) true Tryz.f3.params.toList args.toList ds p:=hA0;rw[Tryz.params3] at hA hval;obtain⟨v0,vs0,d0,ds0,p0,q0,hargs,rfl,rfl,h0,r0⟩:=trodAll_cons hA;obtain⟨rfl,rfl,rfl⟩:=trodAll_nil r0
 obtain rfl:args=#[v0]:=by cases args;simp_all
 obtain⟨rfl,rfl⟩:=trodVars_none hV;have k0:=h0
 have lt0:∀x∈p0,x.block<W.heap.size:=by obtain⟨m,hm⟩:=k0;exact DataW.trod_lt m _ _ _ hm
 have ok0:=hval 0 9 v0 rfl rfl;obtain⟨s0,rfl,rfl,rfl,w0⟩:=Go.ChangeMaps.open_string Tryz.underlying9 ok0 h0;clear hA0 hval0 hval;obtain⟨a,hgw⟩:=Jsj hL hsh;refine(FW s0 W hgw).mono fun e W' ⟨he,bel⟩=>?_;subst he;exact⟨_,rfl,_,_,_,[],_,[],hW',trodAll_mk1 (shut_bool Tryz.underlying4 _),(trodAll_cons_mk (Below.trod (show laidOutB Tryz.prog=true by kernel_rfl) (by kernel_rfl) (of_decide_eq_true (by kernel_rfl)) k0 bel lt0) trodAll_mk0),rfl,bel.frame _,fun h=>by cases h⟩
end Go.Proofs.YtnepnnkdgejheaaGreatDoor.consoleSays
