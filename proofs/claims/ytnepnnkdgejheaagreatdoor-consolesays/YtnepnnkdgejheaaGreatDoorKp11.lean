import Derived.LaidEql
import Derived.Stop.Asserts
import Derived.RowKitTokens
import Derived.Test.YtnepnnkdgejheaaGreatDoorKp02
set_option maxRecDepth 100000
set_option maxHeartbeats 20000000
namespace Go.Proofs.YtnepnnkdgejheaaGreatDoor
open Go.RowKit Go.Extern.Stop Go.Stop Go.Extern Plain Tryz
def GV(w:V6):Prop:=w.cell? (Ad 1 0)=some (.iface 273 (.agg #[Ve 10 27]))
theorem GV.lq{w w':V6}(h:GV w)(y:Bw w w'):GV w':=cell_later y h
theorem GV.lt{w:V6}(h:GV w):1<w.heap.size:=World.block_lt_of_cell? w ⟨1,0,none⟩ h
theorem Jfw(t:Value)(w:V6):Va 65 #[.nilIface,t] w (Re w (.bool false)):=by
 go_enter func65,ntmps65
 go_wp2;go_ret;exact⟨rfl,rfl⟩
theorem G4(t:Addr)(w:V6):(ReflectliteValue.unpack (.iface 143 (.pointer (some t)))).run prog w=.ok (.agg #[Ve 10 143,Ve w.heap.size 0,.int .u64 150]) (w.alloc (.cells #[.pointer (some t)] 143)):=by kernel_rfl
theorem RM(a:Addr)(w:V6):(ReflectliteValue.methodAny (ReflectliteValue.valueError "reflectlite.Value.Type" 0) (fun t _ _ _=>ReflectliteType.toType t) #[.agg #[Ve 10 143,.pointer (some a),.int .u64 150]]).run prog w=.ok (.iface 273 (.agg #[Ve 10 143])) w:=by kernel_rfl
theorem RO(h:Value)(w:V6):(Go.method 605 273 (.agg #[h]) "Kind").run prog w=.ok (394,h) w:=by kernel_rfl
theorem RP(w:V6):((ReflectliteType.abiMethod fun t=>(fun a:Nat=>Value.int IntKind.u8 (a:Int)) <$> Rtype.kind t) #[Ve 10 143]).run prog w=.ok (.int .u8 22) w:=by kernel_rfl
theorem RQ(w:V6):((ReflectliteType.abiMethod fun t=>(fun a:Nat=>Value.int IntKind.u8 (a:Int)) <$> Rtype.kind t) #[Ve 10 22]).run prog w=.ok (.int .u8 2) w:=by kernel_rfl
theorem ML(a:Addr)(w:V6):(ReflectliteValue.parts (.agg #[Ve 10 143,.pointer (some a),.int .u64 150])).run prog w=.ok (some (143,a,150)) w:=by kernel_rfl
theorem MM(a p:Addr)(W:V6)(ha:W.cell? a=some (.pointer (some p))):
 (ReflectliteValue.method (ReflectliteValue.valueError "reflectlite.Value.IsNil" 0) ReflectliteValue.isNil #[.agg #[Ve 10 143,.pointer (some a),.int .u64 150]]).run prog W=.ok (.bool false) W:=by
 show Sem.run prog (ReflectliteValue.parts _ >>= _) W=_
 simp only[Array.getLit,List.getElem_toArray,List.getElem_cons_zero,Sem.run_bind,ML,Result.andThen]
 simp[ReflectliteValue.isNil,loadVar,isAgg,underlying,underlying143,ha,Result.andThen]
theorem RR(h:Value)(w:V6):(Go.method 605 273 (.agg #[h]) "Elem").run prog w=.ok (405,.agg #[h]) w:=by kernel_rfl
theorem RT(h:Value)(w:V6):(Go.method 605 273 (.agg #[h]) "Implements").run prog w=.ok (406,.agg #[h]) w:=by kernel_rfl
theorem Jah(h:Value)(w:V6):(Go.method 605 273 (.agg #[h]) "AssignableTo").run prog w=.ok (403,.agg #[h]) w:=by kernel_rfl
theorem RW(w:V6):(ReflectliteType.method ReflectliteType.elem #[.agg #[Ve 10 143]]).run prog w=.ok (.iface 273 (.agg #[Ve 10 22])) w:=by kernel_rfl
theorem RX(w:V6):(ReflectliteType.relation "Implements" ReflectliteType.implements_ #[.agg #[Ve 10 22],.iface 273 (.agg #[Ve 10 27])]).run prog w=.ok (.bool true) w:=by kernel_rfl
theorem WB(v:Value)(w:V6):(ReflectliteType.typeOf #[.iface 22 v]).run prog w=.ok (.iface 273 (.agg #[Ve 10 22])) w:=by kernel_rfl
theorem Jk2(w:V6):(ReflectliteType.relation "AssignableTo" ReflectliteType.assignableTo #[.agg #[Ve 10 22],.iface 273 (.agg #[Ve 10 22])]).run prog w=.ok (.bool true) w:=by kernel_rfl
theorem RY(e:Int)(w:V6):(ReflectliteValue.unpack (.iface 22 (Vi e))).run prog w=.ok (.agg #[Ve 10 22,Ve w.heap.size 0,.int .u64 130]) (w.alloc (.cells #[Vi e] 22)):=by kernel_rfl
theorem WC(w:V6):(Rtype.elem? 143).run prog w=.ok (some 22) w:=by kernel_rfl
theorem Joo(p:Addr)(w:V6):(ReflectliteValue.mk 22 p ReflectliteValue.flagAddr).run prog w=.ok (.agg #[Ve 10 22,.pointer (some p),.int .u64 386]) w:=by kernel_rfl
theorem Jc4(a p:Addr)(W:V6)(ha:W.cell? a=some (.pointer (some p))):
 (ReflectliteValue.method (ReflectliteValue.valueError "reflectlite.Value.Elem" 0) ReflectliteValue.elem #[.agg #[Ve 10 143,.pointer (some a),.int .u64 150]]).run prog W=.ok (.agg #[Ve 10 22,.pointer (some p),.int .u64 386]) W:=by
 show Sem.run prog (ReflectliteValue.parts _ >>= _) W=_
 simp only[Array.getLit,List.getElem_toArray,List.getElem_cons_zero,Sem.run_bind,ML,Result.andThen]
 simp[ReflectliteValue.elem,loadVar,isAgg,underlying,underlying143,ha,Result.andThen,WC,Joo]
theorem WD(a:Addr)(w:V6):(ReflectliteValue.parts (.agg #[Ve 10 22,.pointer (some a),.int .u64 386])).run prog w=.ok (some (22,a,386)) w:=by kernel_rfl
theorem Jc5(a:Addr)(w:V6):(ReflectliteValue.parts (.agg #[Ve 10 22,.pointer (some a),.int .u64 130])).run prog w=.ok (some (22,a,130)) w:=by kernel_rfl
theorem WE(w:V6):(Rtype.directlyAssignable 22 22).run prog w=.ok true w:=by kernel_rfl
theorem Jk3(h b:Addr)(e:Int)(old:Value)(W:V6)(y:W.cell? b=some (Vi e))(j:W.cell? h=some old)(m:W.frozen? h=false):
 (ReflectliteValue.set #[.agg #[Ve 10 22,.pointer (some h),.int .u64 386],.agg #[Ve 10 22,.pointer (some b),.int .u64 130]]).run prog W=.ok (.tuple #[]) (W.setCell h (Vi e)):=by
 show Sem.run prog (ReflectliteValue.parts _ >>= _) W=_
 simp only[Array.getLit,List.getElem_toArray,List.getElem_cons_zero,List.getElem_cons_succ,Sem.run_bind,WD,Jc5,Result.andThen]
 simp[ReflectliteValue.flagAddr,loadVar,isAgg,underlying,underlying22,y,Result.andThen,WE,storeVar,Value.cells,storeCells,Addr.add]
 rw[run_store prog W h _ _ (by rfl)]
 simp[j,m]
theorem Jop(e:Int)(t:Addr)(old:Value)(w:V6)(h:GV w)(ha:w.cell? t=some old)(hc:w.frozen? t=false):
 Va 65 #[.iface 22 (Vi e),.iface 143 (.pointer (some t))] w fun j w'=>j=.returned (.bool true)/\w'=((((w.alloc (.cells #[.pointer (some t)] 143)).alloc (.cells #[Ve 10 143,Ve w.heap.size 0,.int .u64 150] 206)).alloc (.cells #[Ve 10 143,Ve w.heap.size 0,.int .u64 150] 206)).alloc (.cells #[Vi e] 22)).setCell t (Vi e):=by
 have m:=@run_callFunc_extern prog 116 _ (fun args=>ReflectliteValue.unpack (args.getD 0 (.tuple #[]))) func116 (by kernel_rfl) (by kernel_rfl) (by kernel_rfl) (by kernel_rfl);have H:=@run_callFunc_extern prog 117 _ (ReflectliteValue.methodAny (ReflectliteValue.valueError "reflectlite.Value.Type" 0) (fun t _ _ _=>ReflectliteType.toType t)) func117 (by kernel_rfl) (by kernel_rfl) (by kernel_rfl) (by kernel_rfl);have Z:=@run_callFunc_extern prog 118 _ (ReflectliteValue.method (ReflectliteValue.valueError "reflectlite.Value.IsNil" 0) ReflectliteValue.isNil) func118 (by kernel_rfl) (by kernel_rfl) (by kernel_rfl) (by kernel_rfl);have Y:=@run_callFunc_extern prog 394 _ (ReflectliteType.abiMethod fun t=>do pure (.int .u8 (<-Rtype.kind t))) func394 (by kernel_rfl) (by kernel_rfl) (by kernel_rfl) (by kernel_rfl);have X:=@run_callFunc_extern prog 405 _ (ReflectliteType.method ReflectliteType.elem) func405 (by kernel_rfl) (by kernel_rfl) (by kernel_rfl) (by kernel_rfl);have Q:=@run_callFunc_extern prog 406 _ (ReflectliteType.relation "Implements" ReflectliteType.implements_) func406 (by kernel_rfl) (by kernel_rfl) (by kernel_rfl) (by kernel_rfl);have G:=@run_callFunc_extern prog 175 _ ReflectliteType.typeOf func175 (by kernel_rfl) (by kernel_rfl) (by kernel_rfl) (by kernel_rfl);have R:=@run_callFunc_extern prog 403 _ (ReflectliteType.relation "AssignableTo" ReflectliteType.assignableTo) func403 (by kernel_rfl) (by kernel_rfl) (by kernel_rfl) (by kernel_rfl);have T:=@run_callFunc_extern prog 176 _ (ReflectliteValue.method (ReflectliteValue.valueError "reflectlite.Value.Elem" 0) ReflectliteValue.elem) func176 (by kernel_rfl) (by kernel_rfl) (by kernel_rfl) (by kernel_rfl);have J:=@run_callFunc_extern prog 177 _ ReflectliteValue.set func177 (by kernel_rfl) (by kernel_rfl) (by kernel_rfl) (by kernel_rfl);have K:=WB;have M:=Jah;have a25:=Jk2;have v25:=RY;have N:=G4;have P:=RM;have D:=RO;have C:=RR;have E:=RT;have k27:=RP;have k25:=RQ;have e27:=RW;have i25:=RX;have F:=MM ⟨w.heap.size,0,none⟩ t ((w.alloc (.cells #[.pointer (some t)] 143)).alloc (.cells #[Ve 10 143,Ve w.heap.size 0,.int .u64 150] 206)) (by simp);have hd:=h.lt
 have I:((w.alloc (.cells #[.pointer (some t)] 143)).alloc (.cells #[Ve 10 143,Ve w.heap.size 0,.int .u64 150] 206)).cell? (Ad 1 0)=some (.iface 273 (.agg #[Ve 10 27])):=by
  rw[World.cell?_alloc_lt _ _ ⟨1,0,none⟩ (by first|(simp;done)|(simp;omega)),World.cell?_alloc_lt _ _ ⟨1,0,none⟩ hd];exact h
 have y:t.block<w.heap.size:=World.block_lt_of_cell? w t ha;have L:=Jc4 ⟨w.heap.size,0,none⟩ t (((w.alloc (.cells #[.pointer (some t)] 143)).alloc (.cells #[Ve 10 143,Ve w.heap.size 0,.int .u64 150] 206)).alloc (.cells #[Ve 10 143,Ve w.heap.size 0,.int .u64 150] 206)) (by rw[World.cell?_alloc_lt _ _ ⟨w.heap.size,0,none⟩ (by simp;omega)];simp);have st:=Jk3 t ⟨w.heap.size+1+1+1,0,none⟩ e old ((((w.alloc (.cells #[.pointer (some t)] 143)).alloc (.cells #[Ve 10 143,Ve w.heap.size 0,.int .u64 150] 206)).alloc (.cells #[Ve 10 143,Ve w.heap.size 0,.int .u64 150] 206)).alloc (.cells #[Vi e] 22))
  (by rw[World.cell?_alloc_at _ _ _ _ (by simp)];rfl)
  (by rw[World.cell?_alloc_lt _ _ t (by simp;omega),World.cell?_alloc_lt _ _ t (by simp;omega),World.cell?_alloc_lt _ _ t (by simp;omega),World.cell?_alloc_lt _ _ t y];exact ha)
  (by rw[World.frozen?_alloc_old _ _ t (by simp;omega),World.frozen?_alloc_old _ _ t (by simp;omega),World.frozen?_alloc_old _ _ t (by simp;omega),World.frozen?_alloc_old _ _ t (Nat.ne_of_lt y)];exact hc)
 go_enter func65,ntmps65
 go_wp2;refine wp_loop_rounds 1 ?_;rw[rounds_succ];go_wp2;go_ret;exact⟨rfl,rfl⟩
end Go.Proofs.YtnepnnkdgejheaaGreatDoor
