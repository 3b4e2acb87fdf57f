import Derived.LaidEql
import Derived.Stop.Asserts
import Derived.RowKitTokens
import Derived.Shelf.Abstract
import Derived.Test.YtnfdfiholcelaaaGreatDoorJp01
set_option maxRecDepth 100000
set_option maxHeartbeats 20000000
namespace Go.Proofs.YtnfdfiholcelaaaGreatDoor
open Go.RowKit Go.Extern.Stop Go.Stop Go.Extern Plain Tryz
def GV(w:World):Prop:=w.cell? (Ad 0 0)=some (.iface 293 (.agg #[.pointer (some (Ad 1 51))]))
theorem GV.later{w w':World}(h:GV w)(hb:Bw w w'):GV w':=cell_later hb h
theorem GV.lt{w:World}(h:GV w):0<w.heap.size:=World.block_lt_of_cell? w ⟨0,0,none⟩ h
theorem as_nil(t:Value)(w:World):Calls prog 101 #[.nilIface,t] w (Re w (.bool false)):=by
 go_enter func101,ntmps101
 go_wp2;go_ret;exact⟨rfl,rfl⟩
theorem as_valueOfP(t:Addr)(w:World):(ReflectliteValue.unpack (.iface 202 (.pointer (some t)))).run prog w=.ok (.agg #[.pointer (some (Ad 1 202)),.pointer (some (Ad w.heap.size 0)),.int .u64 150]) (w.alloc (.cells #[.pointer (some t)] 202)):=by kernel_rfl
theorem as_typeP(a:Addr)(w:World):(ReflectliteValue.methodAny (ReflectliteValue.valueError "reflectlite.Value.Type" 0) (fun t _ _ _=>ReflectliteType.toType t) #[.agg #[.pointer (some (Ad 1 202)),.pointer (some a),.int .u64 150]]).run prog w=.ok (.iface 293 (.agg #[.pointer (some (Ad 1 202))])) w:=by kernel_rfl
theorem as_mKind(h:Value)(w:World):(Go.method 521 293 (.agg #[h]) "Kind").run prog w=.ok (304,h) w:=by kernel_rfl
theorem as_kindP(w:World):((ReflectliteType.abiMethod fun t=>(fun a:Nat=>Value.int IntKind.u8 (a:Int)) <$> Rtype.kind t) #[.pointer (some (Ad 1 202))]).run prog w=.ok (.int .u8 22) w:=by kernel_rfl
theorem as_kindE(w:World):((ReflectliteType.abiMethod fun t=>(fun a:Nat=>Value.int IntKind.u8 (a:Int)) <$> Rtype.kind t) #[.pointer (some (Ad 1 44))]).run prog w=.ok (.int .u8 2) w:=by kernel_rfl
theorem as_partsP(a:Addr)(w:World):(ReflectliteValue.parts (.agg #[.pointer (some (Ad 1 202)),.pointer (some a),.int .u64 150])).run prog w=.ok (some (202,a,150)) w:=by kernel_rfl
theorem as_isNilP(a p:Addr)(W:World)(ha:W.cell? a=some (.pointer (some p))):
 (ReflectliteValue.method (ReflectliteValue.valueError "reflectlite.Value.IsNil" 0) ReflectliteValue.isNil #[.agg #[.pointer (some (Ad 1 202)),.pointer (some a),.int .u64 150]]).run prog W=.ok (.bool false) W:=by
 show Sem.run prog (ReflectliteValue.parts _ >>= _) W=_
 simp only[Array.getLit,List.getElem_toArray,List.getElem_cons_zero,Sem.run_bind,as_partsP,Result.andThen]
 simp[ReflectliteValue.isNil,loadVar,isAgg,underlying,underlying202,ha,Result.andThen]
theorem as_mElem(h:Value)(w:World):(Go.method 521 293 (.agg #[h]) "Elem").run prog w=.ok (314,.agg #[h]) w:=by kernel_rfl
theorem as_mImpl(h:Value)(w:World):(Go.method 521 293 (.agg #[h]) "Implements").run prog w=.ok (315,.agg #[h]) w:=by kernel_rfl
theorem as_mAss(h:Value)(w:World):(Go.method 521 293 (.agg #[h]) "AssignableTo").run prog w=.ok (312,.agg #[h]) w:=by kernel_rfl
theorem as_elemP(w:World):(ReflectliteType.method ReflectliteType.elem #[.agg #[.pointer (some (Ad 1 202))]]).run prog w=.ok (.iface 293 (.agg #[.pointer (some (Ad 1 44))])) w:=by kernel_rfl
theorem as_implE(w:World):(ReflectliteType.relation "Implements" ReflectliteType.implements_ #[.agg #[.pointer (some (Ad 1 44))],.iface 293 (.agg #[.pointer (some (Ad 1 51))])]).run prog w=.ok (.bool true) w:=by kernel_rfl
theorem as_typeOfE(v:Value)(w:World):(ReflectliteType.typeOf #[.iface 44 v]).run prog w=.ok (.iface 293 (.agg #[.pointer (some (Ad 1 44))])) w:=by kernel_rfl
theorem as_assE(w:World):(ReflectliteType.relation "AssignableTo" ReflectliteType.assignableTo #[.agg #[.pointer (some (Ad 1 44))],.iface 293 (.agg #[.pointer (some (Ad 1 44))])]).run prog w=.ok (.bool true) w:=by kernel_rfl
theorem as_valueOfE(e:Int)(w:World):(ReflectliteValue.unpack (.iface 44 (Vi e))).run prog w=.ok (.agg #[.pointer (some (Ad 1 44)),.pointer (some (Ad w.heap.size 0)),.int .u64 130]) (w.alloc (.cells #[Vi e] 44)):=by kernel_rfl
theorem as_elemOfP(w:World):(Rtype.elem? 202).run prog w=.ok (some 44) w:=by kernel_rfl
theorem as_mkE(p:Addr)(w:World):(ReflectliteValue.mk 44 p ReflectliteValue.flagAddr).run prog w=.ok (.agg #[.pointer (some (Ad 1 44)),.pointer (some p),.int .u64 386]) w:=by kernel_rfl
theorem as_elemVP(a p:Addr)(W:World)(ha:W.cell? a=some (.pointer (some p))):
 (ReflectliteValue.method (ReflectliteValue.valueError "reflectlite.Value.Elem" 0) ReflectliteValue.elem #[.agg #[.pointer (some (Ad 1 202)),.pointer (some a),.int .u64 150]]).run prog W=.ok (.agg #[.pointer (some (Ad 1 44)),.pointer (some p),.int .u64 386]) W:=by
 show Sem.run prog (ReflectliteValue.parts _ >>= _) W=_
 simp only[Array.getLit,List.getElem_toArray,List.getElem_cons_zero,Sem.run_bind,as_partsP,Result.andThen]
 simp[ReflectliteValue.elem,loadVar,isAgg,underlying,underlying202,ha,Result.andThen,as_elemOfP,as_mkE]
theorem as_partsEa(a:Addr)(w:World):(ReflectliteValue.parts (.agg #[.pointer (some (Ad 1 44)),.pointer (some a),.int .u64 386])).run prog w=.ok (some (44,a,386)) w:=by kernel_rfl
theorem as_partsE(a:Addr)(w:World):(ReflectliteValue.parts (.agg #[.pointer (some (Ad 1 44)),.pointer (some a),.int .u64 130])).run prog w=.ok (some (44,a,130)) w:=by kernel_rfl
theorem as_directE(w:World):(Rtype.directlyAssignable 44 44).run prog w=.ok true w:=by kernel_rfl
theorem as_setE(ta b:Addr)(e:Int)(old:Value)(W:World)(hb:W.cell? b=some (Vi e))(ht:W.cell? ta=some old)(hf:W.frozen? ta=false):
 (ReflectliteValue.set #[.agg #[.pointer (some (Ad 1 44)),.pointer (some ta),.int .u64 386],.agg #[.pointer (some (Ad 1 44)),.pointer (some b),.int .u64 130]]).run prog W=.ok (.tuple #[]) (W.setCell ta (Vi e)):=by
 show Sem.run prog (ReflectliteValue.parts _ >>= _) W=_
 simp only[Array.getLit,List.getElem_toArray,List.getElem_cons_zero,List.getElem_cons_succ,Sem.run_bind,as_partsEa,as_partsE,Result.andThen]
 simp[ReflectliteValue.flagAddr,loadVar,isAgg,underlying,underlying44,hb,Result.andThen,as_directE,storeVar,Value.cells,storeCells,Addr.add]
 rw[run_store prog W ta _ _ (by rfl)]
 simp[ht,hf]
theorem as_hit(e:Int)(t:Addr)(old:Value)(w:World)(hg:GV w)(ht0:w.cell? t=some old)(hf0:w.frozen? t=false):
 Calls prog 101 #[.iface 44 (Vi e),.iface 202 (.pointer (some t))] w fun ev w'=>ev=.returned (.bool true)∧w'=((((w.alloc (.cells #[.pointer (some t)] 202)).alloc (.cells #[.pointer (some (Ad 1 202)),.pointer (some (Ad w.heap.size 0)),.int .u64 150] 251)).alloc (.cells #[.pointer (some (Ad 1 202)),.pointer (some (Ad w.heap.size 0)),.int .u64 150] 251)).alloc (.cells #[Vi e] 44)).setCell t (Vi e):=by
 have x0:=@run_callFunc_extern prog 153 _ (fun args=>ReflectliteValue.unpack (args.getD 0 (.tuple #[]))) func153 (by kernel_rfl) (by kernel_rfl) (by kernel_rfl) (by kernel_rfl);have x1:=@run_callFunc_extern prog 154 _ (ReflectliteValue.methodAny (ReflectliteValue.valueError "reflectlite.Value.Type" 0) (fun t _ _ _=>ReflectliteType.toType t)) func154 (by kernel_rfl) (by kernel_rfl) (by kernel_rfl) (by kernel_rfl);have x2:=@run_callFunc_extern prog 155 _ (ReflectliteValue.method (ReflectliteValue.valueError "reflectlite.Value.IsNil" 0) ReflectliteValue.isNil) func155 (by kernel_rfl) (by kernel_rfl) (by kernel_rfl) (by kernel_rfl);have x3:=@run_callFunc_extern prog 304 _ (ReflectliteType.abiMethod fun t=>do pure (.int .u8 (←Rtype.kind t))) func304 (by kernel_rfl) (by kernel_rfl) (by kernel_rfl) (by kernel_rfl);have x4:=@run_callFunc_extern prog 314 _ (ReflectliteType.method ReflectliteType.elem) func314 (by kernel_rfl) (by kernel_rfl) (by kernel_rfl) (by kernel_rfl);have x5:=@run_callFunc_extern prog 315 _ (ReflectliteType.relation "Implements" ReflectliteType.implements_) func315 (by kernel_rfl) (by kernel_rfl) (by kernel_rfl) (by kernel_rfl);have x6:=@run_callFunc_extern prog 207 _ ReflectliteType.typeOf func207 (by kernel_rfl) (by kernel_rfl) (by kernel_rfl) (by kernel_rfl);have x7:=@run_callFunc_extern prog 312 _ (ReflectliteType.relation "AssignableTo" ReflectliteType.assignableTo) func312 (by kernel_rfl) (by kernel_rfl) (by kernel_rfl) (by kernel_rfl);have x8:=@run_callFunc_extern prog 208 _ (ReflectliteValue.method (ReflectliteValue.valueError "reflectlite.Value.Elem" 0) ReflectliteValue.elem) func208 (by kernel_rfl) (by kernel_rfl) (by kernel_rfl) (by kernel_rfl);have x9:=@run_callFunc_extern prog 209 _ ReflectliteValue.set func209 (by kernel_rfl) (by kernel_rfl) (by kernel_rfl) (by kernel_rfl);have tO:=as_typeOfE;have mA:=as_mAss;have a25:=as_assE;have v25:=as_valueOfE;have f6:=as_valueOfP;have f7:=as_typeP;have mK:=as_mKind;have mE:=as_mElem;have mI:=as_mImpl;have k27:=as_kindP;have k25:=as_kindE;have e27:=as_elemP;have i25:=as_implE;have n8:=as_isNilP ⟨w.heap.size,0,none⟩ t ((w.alloc (.cells #[.pointer (some t)] 202)).alloc (.cells #[.pointer (some (Ad 1 202)),.pointer (some (Ad w.heap.size 0)),.int .u64 150] 251)) (by simp);have hlt:=hg.lt
 have hg2:((w.alloc (.cells #[.pointer (some t)] 202)).alloc (.cells #[.pointer (some (Ad 1 202)),.pointer (some (Ad w.heap.size 0)),.int .u64 150] 251)).cell? (Ad 0 0)=some (.iface 293 (.agg #[.pointer (some (Ad 1 51))])):=by
  rw[World.cell?_alloc_lt _ _ ⟨0,0,none⟩ (by first|(simp;done)|(simp;omega)),World.cell?_alloc_lt _ _ ⟨0,0,none⟩ hlt];exact hg
 have htl:t.block<w.heap.size:=World.block_lt_of_cell? w t ht0;have el:=as_elemVP ⟨w.heap.size,0,none⟩ t (((w.alloc (.cells #[.pointer (some t)] 202)).alloc (.cells #[.pointer (some (Ad 1 202)),.pointer (some (Ad w.heap.size 0)),.int .u64 150] 251)).alloc (.cells #[.pointer (some (Ad 1 202)),.pointer (some (Ad w.heap.size 0)),.int .u64 150] 251)) (by rw[World.cell?_alloc_lt _ _ ⟨w.heap.size,0,none⟩ (by simp;omega)];simp);have st:=as_setE t ⟨w.heap.size+1+1+1,0,none⟩ e old ((((w.alloc (.cells #[.pointer (some t)] 202)).alloc (.cells #[.pointer (some (Ad 1 202)),.pointer (some (Ad w.heap.size 0)),.int .u64 150] 251)).alloc (.cells #[.pointer (some (Ad 1 202)),.pointer (some (Ad w.heap.size 0)),.int .u64 150] 251)).alloc (.cells #[Vi e] 44))
  (by rw[World.cell?_alloc_at _ _ _ _ (by simp)];rfl)
  (by rw[World.cell?_alloc_lt _ _ t (by simp;omega),World.cell?_alloc_lt _ _ t (by simp;omega),World.cell?_alloc_lt _ _ t (by simp;omega),World.cell?_alloc_lt _ _ t htl];exact ht0)
  (by rw[World.frozen?_alloc_old _ _ t (by simp;omega),World.frozen?_alloc_old _ _ t (by simp;omega),World.frozen?_alloc_old _ _ t (by simp;omega),World.frozen?_alloc_old _ _ t (Nat.ne_of_lt htl)];exact hf0)
 go_enter func101,ntmps101
 go_wp2;refine wp_loop_rounds 1 ?_;rw[rounds_succ];go_wp2;go_ret;exact⟨rfl,rfl⟩
end Go.Proofs.YtnfdfiholcelaaaGreatDoor
namespace Go.Proofs.YtnfdfiholcelaaaGreatDoor
open Go.RowKit Plain Tryz
variable {a:Option Addr}{e:Nat→Int}{k n t:Nat}{u w:World}
def fstN(e:Nat→Int):Nat→Int
 |0=>0
 |n+1=>if fstN e n=0 then e n else fstN e n
theorem U4:∀{n:Nat},(∀j,j<n→e j=0)→fstN e n=0
 |0,_=>rfl
 |n+1,h=>by
  have:=U4 (n:=n) (fun j hj=>h j (by omega))
  simp[fstN,this,h n (by omega)]
theorem fstN_at(h:∀j,j<k→e j=0)(hk:e k≠0):∀{n:Nat},k<n→fstN e n=e k
 |0,hn=>by omega
 |n+1,hn=>by
  rcases Nat.lt_or_ge k n with h'|h'
  · have:=fstN_at h hk h';simp only[fstN,this,if_neg hk]
  · obtain rfl:k=n:=by omega
    simp only[fstN,U4 h,if_true]
theorem fstN_all:∀{n:Nat},fstN e n=0→∀j,j<n→e j=0
 |0,_,j,hj=>by omega
 |n+1,h,j,hj=>by
  have h0:fstN e n=0:=by
   unfold fstN at h
   split at h
   · assumption
   · exact h
  rcases Nat.lt_or_ge j n with h'|h'
  · exact fstN_all h0 j h'
  · obtain rfl:j=n:=by omega
    simpa[fstN,h0] using h
def Clos(w:World)(a:Option Addr)(n:Nat)(g:Nat→Nat)(cb:Nat→Array Value):Prop:=n=0∨∃b off,a=some (Ad b off)∧∀k,k<n→Kc w b (off+k) (.func (.func (g k)) #[] (cb k))
theorem Clos.later{w':World}{g:Nat→Nat}{cb:Nat→Array Value}(h:Clos w a n g cb)(hb:Bw w w'):Clos w' a n g cb:=by
 rcases h with h|⟨b,off,h,hc⟩
 · exact .inl h
 · exact .inr ⟨b,off,h,fun k hk=>cell_later hb (hc k hk)⟩
theorem Clos.at{g:Nat→Nat}{cb:Nat→Array Value}(h:Clos w a n g cb)(hk:k<n):∃b off,a=some (Ad b off)∧Kc w b (off+k) (.func (.func (g k)) #[] (cb k)):=by
 rcases h with rfl|⟨b,off,h',hc⟩
 · omega
 · exact⟨b,off,h',hc k hk⟩
theorem below_as(hb:Bw w u)(ht:w.heap.size≤t)(o1 o2 o3 o4:Obj)(v:Value):Bw w (((((u.alloc o1).alloc o2).alloc o3).alloc o4).setCell (Ad t 0) v):=
 ((((hb.alloc hb.size _).alloc (by have:=hb.size;simp;omega) _).alloc (by have:=hb.size;simp;omega) _).alloc (by have:=hb.size;simp;omega) _).setCell ht _
theorem as_cell{x:Value}(h:Kc u t 0 x)(o1 o2 o3 o4:Obj)(v:Value):(((((u.alloc o1).alloc o2).alloc o3).alloc o4).setCell (Ad t 0) v).cell? (Ad t 0)=some v:=by
 have h1:=cell_later (Zb _ o4) (cell_later (Zb _ o3) (cell_later (Zb _ o2) (cell_later (Zb u o1) h)));exact World.cell?_setCell_same' _ _ _ (by rw[h1];rfl)
theorem as_box(e:Int)(w0:World)(B:Nat)(w:World)(hg:GV w)(hx:w.cell? (Ad B 0)=some (Vi 0)∧w.frozen? (Ad B 0)=false)(hb:Bw w0 w)(hB:w0.heap.size≤B):
 Calls prog 101 #[.iface 44 (Vi e),.iface 202 (.pointer (some (Ad B 0)))] w fun ev w'=>ev=.returned (.bool true)∧w'.cell? (Ad B 0)=some (Vi e)∧Bw w0 w':=
 (as_hit e ⟨B,0,none⟩ (Vi 0) w hg hx.1 hx.2).mono fun _ _ h=>⟨h.1,by rw[h.2];exact as_cell hx.1 _ _ _ _ _,by rw[h.2];exact below_as hb hB _ _ _ _ _⟩
theorem Zib(a:Option Addr)(n cap:Nat)(g:Nat→Nat)(cb:Nat→Array Value)(e:Nat→Int)(hn:n≤1000)(w:World)(hc:Clos w a n g cb)(hg:GV w)(hent:∀k,k<n→∀args w,(callFunc (g k) args).run prog w=.ok (.enter (g k) args) w)(hcall:∀k,k<n→(∀j,j<k→e j=0)→∀u,Bw w u→Calls prog (g k) (cb k) u fun r u'=>r=.returned (errV (e k))∧Bw u u'):
 Calls prog 57 #[.slice a n cap] w fun r w'=>r=.returned (errV (fstN e n))∧Bw w w':=by
 have HC:=Za hc;have HG:=Za hg;have HK:=Za hcall;have HE:=Za hent;clear hc hg hcall hent
 go_enter func57,ntmps57
 go_wp2
 go_loopw [8] (fun i wr=>∃k:Nat,k≤n∧i=Vi k∧Hid (∀j,j<k→e j=0)∧Bw w wr) (fun i _=>n-(intOf i).toNat)
 case atStart=>exact⟨0,Nat.zero_le _,rfl,Za (fun j hj=>absurd hj (by omega)),Below.refl _ _⟩
 case round=>
  obtain⟨k,hk,rfl,HZ,hb⟩:=hrel;have HB:=Za hb
  by_cases hlt:k<n
  · obtain⟨b,off,rfl,hcell⟩:=(HC.out.later hb).at hlt;have hen:=HE.out k hlt;have hB1:=Zc hb (Zb wr (.cells #[Vi 0] 44));have hca:=HK.out k hlt HZ.out _ hB1;have Hb:=Za (fun h=>(fun j hj=>by rcases Nat.lt_or_ge j k with h'|h';exact HZ.out j h';rw[show j=k by omega];exact h:∀j,j<k+1→e j=0));have HF:=Za (fun h=>fstN_at HZ.out h hlt);have Hc:=Za hB1;have HX:Hid ((wr.alloc (.cells #[Vi 0] 44)).cell? (Ad wr.heap.size 0)=some (Vi 0)∧(wr.alloc (.cells #[Vi 0] 44)).frozen? (Ad wr.heap.size 0)=false∧wr.heap.size<(wr.alloc (.cells #[Vi 0] 44)).heap.size):=Za ⟨by simp[go_sem],by simp[go_sem],by simp⟩;clear hb hB1 HZ;generalize g k=gk at *;generalize cb k=ck at*
    by_cases hz:e k=0
    · rw[hz,Z2] at hca;have Hd:=Za (Hb.out hz);clear hz Hb HF HX
      go_wp2_with (first
       |(go_at_fn gk;refine hca.mono ?_;rintro r w1 ⟨rfl,hb1⟩;have Ha:=Za (Zc Hc.out hb1);clear hb1)
       |(go_at_call 101;refine(as_nil _ _).mono ?_;rintro r w2 ⟨rfl,rfl⟩))
      go_roundw
      case rel=>exact⟨k+1,by omega,by go_num,Hd,Ha.out⟩
      case measure=>simp[intOf];omega
    · rw[Z4 hz] at hca;have Hf:Hid (errV (fstN e n)=.iface 44 (Vi (e k))):=Za (by rw[HF.out hz,Z4 hz]);have Hg:=Za HB.out.size;clear hz Hb HF;generalize e k=ek at*
      go_wp2_with (first
       |(go_at_fn gk;refine hca.mono ?_;rintro r w1 ⟨rfl,hb1⟩;have Ha:=Za (Zc Hc.out hb1);have Hh:=Za (HG.out.later Ha.out);have Hi:Hid (Kc w1 wr.heap.size 0 (Vi 0)∧w1.frozen? (Ad wr.heap.size 0)=false):=Za ⟨cell_later hb1 HX.out.1,(hb1.frozen (p:=⟨wr.heap.size,0,none⟩) HX.out.2.2).trans HX.out.2.1⟩;clear hb1 hca)
       |(go_at_call 101;refine(as_box ek w wr.heap.size w1 Hh.out Hi.out Ha.out Hg.out).mono ?_;rintro r w2 ⟨rfl,hc2,hb3⟩;have Hj:=Za hb3;clear hb3))
      go_ret;exact⟨by rw[Hf.out];rfl,Hj.out⟩
  · obtain rfl:k=n:=by omega
    have HF:=Za (U4 HZ.out);clear hb;go_wp2;go_ret;exact⟨by rw[HF.out,Z2];rfl,HB.out⟩
end Go.Proofs.YtnfdfiholcelaaaGreatDoor
