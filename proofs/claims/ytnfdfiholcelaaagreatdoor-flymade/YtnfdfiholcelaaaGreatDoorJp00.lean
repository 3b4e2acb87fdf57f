import Derived.Deep.RegionHeld3
import Derived.Deep.MidRow
import Derived.WalkKit
import Derived.KernelRfl
set_option maxRecDepth 100000
set_option maxHeartbeats 20000000
namespace Go.Proofs.YtnfdfiholcelaaaGreatDoor
open Go.RowKit
variable {P:Program}{Q:Exit→Act→World→Prop}{V:Ending}{a:Act}{f:Nat}{o oi op:Oper}{ops:Array Oper}{rest:List Oper}{v:Value}{vs:Array Value}{w:World}
abbrev Vi(x:Int):Value:=.int .i64 x
abbrev Ad(b o:Nat):Addr:=⟨b,o,none⟩
theorem Sm{u:World}{Q:Ending→World→Prop}(h:Calls P f vs w fun e w'=>e=V∧w'=u)(k:Q V u):Calls P f vs w Q:=h.mono (by rintro e w' ⟨rfl,rfl⟩;exact k)
theorem Sb{R:World→Prop}{Q:Ending→World→Prop}(h:Calls P f vs w fun e w'=>e=V∧R w')(k:∀w',R w'→Q V w'):Calls P f vs w Q:=h.mono (by rintro e w' ⟨rfl,h2⟩;exact k w' h2)
theorem Lq(t:TypeId)(x:Operand)(_ho:op.op=.load t x)(h:wpList P ops Q (op::rest) a w):wpList P ops Q (op::rest) a w:=h
theorem Sq(t:TypeId)(x y:Operand)(_ho:op.op=.store t x y)(h:wpList P ops Q (op::rest) a w):wpList P ops Q (op::rest) a w:=h
theorem Wr(x:Int)(h0:-9223372036854775808≤x:=by omega)(h1:x≤9223372036854775807:=by omega):IntKind.i64.wrap x=x:=by rw[IntKind.wrap_i64];omega
def okT(md:Region.Mode)(ops:Array Oper)(listed:Array Bool)(i:Nat):Bool:=Region.noSelect ops&&(Region.free md ops listed i&&(Region.ready md ops listed).contains i)
theorem okT_and{a b c:Bool}(h:(a&&(b&&c))=true):a=true∧b=true∧c=true:=by simpa using h
section
variable {P : Program} {ops : Array Oper} {Q : Exit → Act → World → Prop} {md : Region.Mode} {S : World → Prop} {fuel : Nat} {listed : Array Bool} {a : Act} {w : World}
theorem Tk(i:Nat)(hi:ops[i]?=some oi)(hy:YieldsIf P ops S oi v a)(hS:S w)(h:wpAnyH P md ops Q S fuel (listed.setIfInBounds i true) (a.put oi.dst v) w)(hf:okT md ops listed i=true:=by kernel_rfl)(hQ:∀c a w,Q (.panic c) (a.put oi.dst v) w→Q (.panic c) a w:=by exact fun _ _ _ h=>h):wpAnyH P md ops Q S (fuel+1) listed a w:=
  wpAnyH_take hi (okT_and hf).1 (okT_and hf).2.1 (okT_and hf).2.2 hQ hy hS h
theorem Tq(i:Nat)(hS:S w)(h:wpAnyH P md ops Q S fuel (listed.setIfInBounds i true) (a.put oi.dst v) w)(hi:ops[i]?=some oi:=by rfl)(hf:okT md ops listed i=true:=by kernel_rfl)(hQ:∀c a w,Q (.panic c) (a.put oi.dst v) w→Q (.panic c) a w:=by exact fun _ _ _ h=>h)(hw:Region.wanted oi (yielded ops a.tmps)=true:=by rfl)(hy:∀w,S w→(execOp a.eval oi).run P w=.ok (.value v) w:=by intro w hSw;clear hSw;go_simp;(try with_reducible rfl)):wpAnyH P md ops Q S (fuel+1) listed a w:=
  wpAnyH_take hi (okT_and hf).1 (okT_and hf).2.1 (okT_and hf).2.2 hQ (.inl ⟨hw,hy⟩) hS h
theorem Tp(i:Nat)(hS:S w)(h:wpAnyH P md ops Q S fuel (listed.setIfInBounds i true) (a.put oi.dst v) w)(hi:ops[i]?=some oi:=by rfl)(hf:okT md ops listed i=true:=by kernel_rfl)(hQ:∀c a w,Q (.panic c) (a.put oi.dst v) w→Q (.panic c) a w:=by exact fun _ _ _ h=>h)(hw:Region.wanted oi (yielded ops a.tmps)=true:=by rfl)(hy:∀w,S w→(execOp a.eval oi).run P w=.ok (.value v) w:=by intro w hSw;(try dsimp only at hSw);go_simp;(try with_reducible rfl)):wpAnyH P md ops Q S (fuel+1) listed a w:=
  wpAnyH_take hi (okT_and hf).1 (okT_and hf).2.1 (okT_and hf).2.2 hQ (.inl ⟨hw,hy⟩) hS h
theorem Th(i:Nat)(hi:ops[i]?=some oi)(hy:∀w,S w→(execOp a.eval oi).run P w=.ok (.value v) w)(hS:S w)(h:wpAnyH P md ops Q S fuel (listed.setIfInBounds i true) (a.put oi.dst v) w)(hf:okT md ops listed i=true:=by kernel_rfl)(hQ:∀c a w,Q (.panic c) (a.put oi.dst v) w→Q (.panic c) a w:=by exact fun _ _ _ h=>h)(hw:Region.wanted oi (yielded ops a.tmps)=true:=by rfl):wpAnyH P md ops Q S (fuel+1) listed a w:=
  wpAnyH_take hi (okT_and hf).1 (okT_and hf).2.1 (okT_and hf).2.2 hQ (.inl ⟨hw,hy⟩) hS h
theorem Ts(i:Nat)(hS:S w)(h:wpAnyH P md ops Q S fuel (listed.setIfInBounds i true) (a.put oi.dst undef) w)(hi:ops[i]?=some oi:=by rfl)(hf:okT md ops listed i=true:=by kernel_rfl)(hQ:∀c a w,Q (.panic c) (a.put oi.dst undef) w→Q (.panic c) a w:=by exact fun _ _ _ h=>h)(hw:Region.wanted oi (yielded ops a.tmps)=false:=by rfl):wpAnyH P md ops Q S (fuel+1) listed a w:=
  wpAnyH_take hi (okT_and hf).1 (okT_and hf).2.1 (okT_and hf).2.2 hQ (.inr ⟨hw,rfl⟩) hS h
theorem Ra(i:Nat)(h:∀K':Act→World→Prop,Shut (∀a w,S w→(S w→wpAnyH P md ops Q S fuel (listed.setIfInBounds i true) a w)→K' a w)→if Region.wanted o (yielded ops a.tmps)=true then Oper.wp P o a w K' Q else K' (a.put o.dst undef) w)(hi:ops[i]?=some o:=by rfl)(hr:Region.ready md ops listed=[i]:=by kernel_rfl):wpAnyH P md ops Q S (fuel+1) listed a w:=
  wpAnyH_ready hr (by simp) (AllReadyH.cons hi h AllReadyH.nil)
theorem Rb{p:Oper}(i j:Nat)(h:∀K':Act→World→Prop,Shut (∀a w,S w→(S w→wpAnyH P md ops Q S fuel (listed.setIfInBounds i true) a w)→K' a w)→if Region.wanted o (yielded ops a.tmps)=true then Oper.wp P o a w K' Q else K' (a.put o.dst undef) w)(k:∀K':Act→World→Prop,Shut (∀a w,S w→(S w→wpAnyH P md ops Q S fuel (listed.setIfInBounds j true) a w)→K' a w)→if Region.wanted p (yielded ops a.tmps)=true then Oper.wp P p a w K' Q else K' (a.put p.dst undef) w)(hi:ops[i]?=some o:=by rfl)(hj:ops[j]?=some p:=by rfl)(hr:Region.ready md ops listed=[i,j]:=by kernel_rfl):wpAnyH P md ops Q S (fuel+1) listed a w:=
  wpAnyH_ready hr (by simp) (AllReadyH.cons hi h (AllReadyH.cons hj k AllReadyH.nil))
end
theorem Ly{α:Type}:(∀(xs:List α) (i:Nat) (h:i<xs.toArray.size),xs.toArray[i]=xs[i]'(by simpa using h))∧(∀(x:α) (xs:List α) (i:Nat) (h:i+1<(x::xs).length),(x::xs)[i+1]=xs[i]'(by simpa using h))∧(∀(x:α) (xs:List α) (h:0<(x::xs).length),(x::xs)[0]=x)∧
    (∀(xs:List α) (i:Nat) (x:α),xs.toArray.setIfInBounds i x=(xs.set i x).toArray)∧(∀(x:α) (xs:List α) (i:Nat) (y:α),(x::xs).set (i+1) y=x::xs.set i y)∧(∀(x:α) (xs:List α) (y:α),(x::xs).set 0 y=y::xs):=
  ⟨fun _ _ _=>rfl,fun _ _ _ _=>rfl,fun _ _ _=>rfl,fun _ _ _=>by simp,fun _ _ _ _=>rfl,fun _ _ _=>rfl⟩
abbrev Kc(u:World)(b o:Nat)(v:Value):Prop:=u.cell? (Ad b o)=some v
attribute [simp, go_sem] Kc
abbrev Qaa:Array Value:=#[Vi 0,Vi 0,Vi 0,.bool false,.bool false,.bool false,Vi 0,Vi 0,Vi 0,Vi 0,.bool false,.bool false,.bool false,Vi 0,Vi 0,Vi 0,Vi 0,.bool false,.bool false,.bool false,Vi 0,.slice none 0 0,.slice none 0 0,Vi 0,Vi 0,Vi 0,Vi 0,Vi 0,Vi 0,Vi 0]
abbrev Qac(G0 k0 G1 k1:Nat):List Value:=[Vi 0,Vi 0,Vi 0,.bool false,.bool false,.bool false,Vi 0,Vi 0,Vi 0,Vi 0,.bool false,.bool false,.bool false,Vi 0,Vi 0,Vi 0,Vi 0,.bool false,.bool false,.bool false,Vi 0,.slice (some (Ad G0 0)) k0 k0,.slice (some (Ad G1 0)) k1 k1,Vi 0,Vi 0,Vi 0,Vi 0,Vi 0,Vi 0,Vi 0]
abbrev Qae(a0 a1 a2 a3 a4 a5 a6 a7 a8 a9 a10 a11 a14 b0 b1 b2 b3 b4 b5 b6 b7 b8 b9 b10 b11 b14 c0 c1:Int)(p q r s:Option Addr)(al zl bl yl:List Int)(cn cm dn dm:Nat):Array Value:=#[Vi a0,Vi a1,Vi a2,Vi a3,Vi a4,Vi a5,Vi a6,Vi a7,Vi a8,Vi a9,Vi a10,Vi a11,.slice p al.length cn,.slice q zl.length cm,Vi a14,Vi b0,Vi b1,Vi b2,Vi b3,Vi b4,Vi b5,Vi b6,Vi b7,Vi b8,Vi b9,Vi b10,Vi b11,.slice r bl.length dn,.slice s yl.length dm,Vi b14,Vi c0,Vi c1]
abbrev Qaf:List Value:=[Vi 0,Vi 0,Vi 0,.bool false,.bool false,.bool false,Vi 0,Vi 0,Vi 0,Vi 0,.bool false,.bool false,.bool false,Vi 0,Vi 0,Vi 0,Vi 0,.bool false,.bool false,.bool false,Vi 0,.slice none 0 0,.slice none 0 0,Vi 0,Vi 0,Vi 0,Vi 0,Vi 0,Vi 0,Vi 0]
abbrev Qag(a0 a1 a2 a3 a4 a5 a6 a7 a8 a9 a10 a11 a14 b0 b1 b2 b3 b4 b5 b6 b7 b8 b9 b10 b11 b14 c0 c1:Int)(p q r s:Option Addr)(n cn m cm n' dn m' dm:Nat):Array Value:=#[Vi a0,Vi a1,Vi a2,Vi a3,Vi a4,Vi a5,Vi a6,Vi a7,Vi a8,Vi a9,Vi a10,Vi a11,.slice p n cn,.slice q m cm,Vi a14,Vi b0,Vi b1,Vi b2,Vi b3,Vi b4,Vi b5,Vi b6,Vi b7,Vi b8,Vi b9,Vi b10,Vi b11,.slice r n' dn,.slice s m' dm,Vi b14,Vi c0,Vi c1]
abbrev Qah(a0 a1 a2 a3 a4 a5 a6 a7 a8 a9 a10 a11 a14:Int)(p q:Option Addr)(n cn m cm:Nat):Array Value:=#[Vi a0,Vi a1,Vi a2,Vi a3,Vi a4,Vi a5,Vi a6,Vi a7,Vi a8,Vi a9,Vi a10,Vi a11,.slice p n cn,.slice q m cm,Vi a14]
abbrev Qai(a0 a1 a2 a3 a4 a5 a6 a7 a8 a9 a10 a11 a14 b0 b1 b2 b3 b4 b5 b6 b7 b8 b9 b10 b11 b14 l30 l31:Int)(p q pp qq:Option Addr)(m1 k1 m2 k2 n1 j1 n2 j2:Nat):List Value:=[Vi a0,Vi a1,Vi a2,Vi a3,Vi a4,Vi a5,Vi a6,Vi a7,Vi a8,Vi a9,Vi a10,Vi a11,.slice p m1 k1,.slice q m2 k2,Vi a14,Vi b0,Vi b1,Vi b2,Vi b3,Vi b4,Vi b5,Vi b6,Vi b7,Vi b8,Vi b9,Vi b10,Vi b11,.slice pp n1 j1,.slice qq n2 j2,Vi b14,Vi l30,Vi l31]
abbrev Qaj(a0 a1 a2 a3 a5 a6 a7 a8 a9 a10 a11 a14 b0 b1 b2 b3 b5 b6 b7 b8 b9 b10 b11 b14 c0 c1:Int)(k0 cn cm k1 dn dm:Nat)(p q r s:Option Addr)(al zl bl yl:List Int):Array Value:=#[Vi a0,Vi a1,Vi a2,Vi a3,Vi (k0:Int),Vi a5,Vi a6,Vi a7,Vi a8,Vi a9,Vi a10,Vi a11,.slice p al.length cn,.slice q zl.length cm,Vi a14,Vi b0,Vi b1,Vi b2,Vi b3,Vi (k1:Int),Vi b5,Vi b6,Vi b7,Vi b8,Vi b9,Vi b10,Vi b11,.slice r bl.length dn,.slice s yl.length dm,Vi b14,Vi c0,Vi c1]
abbrev Qak(G0 k0 G1 k1:Nat):Array Value:=#[Vi 0,Vi 0,Vi 0,.bool false,.bool false,.bool false,Vi 0,Vi 0,Vi 0,Vi 0,.bool false,.bool false,.bool false,Vi 0,Vi 0,Vi 0,Vi 0,.bool false,.bool false,.bool false,Vi 0,.slice (some (Ad G0 0)) k0 k0,.slice (some (Ad G1 0)) k1 k1,Vi 0,Vi 0,Vi 0,Vi 0,Vi 0,Vi 0,Vi 0]
abbrev Qal(n0 n1 n2 vl:Int)(o0 o1 o2:Bool):List Value:=[Vi n0,Vi n1,Vi n2,.bool o0,.bool o1,.bool o2,Vi vl]
abbrev Qam(a0 a1 a2 a3 a5 a6 a7 a8 a9 a10 a11 a14 b0 b1 b2 b3 b5 b6 b7 b8 b9 b10 b11 b14 c0 c1:Int)(k0 n cn m cm k1 n' dn m' dm:Nat)(p q r s:Option Addr):Array Value:=#[Vi a0,Vi a1,Vi a2,Vi a3,Vi (k0:Int),Vi a5,Vi a6,Vi a7,Vi a8,Vi a9,Vi a10,Vi a11,.slice p n cn,.slice q m cm,Vi a14,Vi b0,Vi b1,Vi b2,Vi b3,Vi (k1:Int),Vi b5,Vi b6,Vi b7,Vi b8,Vi b9,Vi b10,Vi b11,.slice r n' dn,.slice s m' dm,Vi b14,Vi c0,Vi c1]
abbrev Qan(b0 b1 b2 b3 b5 b6 b7 b8 b9 b10 b11 b14:Int)(k1 dn dm:Nat)(r s:Option Addr)(bl yl:List Int):Array Value:=#[Vi b0,Vi b1,Vi b2,Vi b3,Vi (k1:Int),Vi b5,Vi b6,Vi b7,Vi b8,Vi b9,Vi b10,Vi b11,.slice r bl.length dn,.slice s yl.length dm,Vi b14]
abbrev Qap(b:Nat→Int)(o:Nat→Bool)(l:Int):Array Value:=#[Vi (b 0),Vi (b 1),Vi (b 2),.bool (o 0),.bool (o 1),.bool (o 2),Vi l]
abbrev Qaq:Array Value:=#[Vi 0,Vi 0,Vi 0,Vi 0,Vi 0,Vi 0,Vi 0,Vi 0,Vi 0,Vi 0,Vi 0,Vi 0,.slice none 0 0,.slice none 0 0,Vi 0,Vi 0,Vi 0,Vi 0,Vi 0,Vi 0,Vi 0,Vi 0,Vi 0,Vi 0,Vi 0,Vi 0,Vi 0,.slice none 0 0,.slice none 0 0,Vi 0,Vi 0,Vi 0]
abbrev Qar(L H U B M:Int)(a z:Option Addr)(al zl:List Int)(ca cz:Nat):Array Value:=#[Vi L,Vi H,Vi U,Vi B,Vi M,.slice a al.length ca,.slice z zl.length cz]
abbrev Qas(ba oa ca bz oz cz:Nat)(a z:List Int):Array Value:=#[.slice (some (Ad ba oa)) a.length ca,.slice (some (Ad bz oz)) z.length cz]
abbrev Qat(a0 a1 a2 a3 a5 a6 a7 a8 a9 a10 a11 a14:Int)(k0 cn cm:Nat)(p q:Option Addr)(al zl:List Int):Array Value:=#[Vi a0,Vi a1,Vi a2,Vi a3,Vi (k0:Int),Vi a5,Vi a6,Vi a7,Vi a8,Vi a9,Vi a10,Vi a11,.slice p al.length cn,.slice q zl.length cm,Vi a14]
abbrev Qav(t:Nat→Bool)(s:Nat→Int):Array Value:=#[.bool (t 0),Vi (s 0),.bool (t 1),Vi (s 1),.bool (t 2),Vi (s 2)]
abbrev Qay:Array Value:=#[Vi 0,Vi 0,Vi 0,.bool false,.bool false,.bool false,Vi 0]
abbrev Qaz:Array Value:=#[.bool false,Vi 0,.bool false,Vi 0,.bool false,Vi 0]
abbrev Qba(a0 a1 N a3 a4 a5 a6 a7 a8 a9 a10 a11 a14:Int)(p q:Option Addr)(n cn m cm:Nat):Array Value:=#[Vi a0,Vi a1,Vi N,Vi a3,Vi a4,Vi a5,Vi a6,Vi a7,Vi a8,Vi a9,Vi a10,Vi a11,.slice p n cn,.slice q m cm,Vi a14]
abbrev Qbe(G0 k0:Nat):List Value:=[Vi 0,Vi 0,Vi 0,.bool false,.bool false,.bool false,Vi 0,Vi 0,Vi 0,Vi 0,.bool false,.bool false,.bool false,Vi 0,Vi 0,Vi 0,Vi 0,.bool false,.bool false,.bool false,Vi 0,.slice (some (Ad G0 0)) k0 k0,.slice none 0 0,Vi 0,Vi 0,Vi 0,Vi 0,Vi 0,Vi 0,Vi 0]
abbrev Qbf:Array Value:=#[Vi 0,Vi 0,Vi 0,Vi 0,Vi 0,Vi 0,Vi 0,Vi 0,Vi 0,Vi 0,Vi 0,Vi 0,.slice none 0 0,.slice none 0 0,Vi 0]
abbrev Qbg:List Value:=[Vi 0,Vi 0,Vi 0,Vi 0,Vi 0,Vi 0,Vi 0,Vi 0,Vi 0,Vi 0,Vi 0,Vi 0,Vi 0,Vi 0,Vi 0]
abbrev Qbi:List Value:=[Vi 0,Vi 0,Vi 0,.bool false,.bool false,.bool false,Vi 0]
abbrev Qbk:Array Value:=#[Vi 0,Vi 0,Vi 0,Vi 0,Vi 0,Vi 0,Vi 0,Vi 0,Vi 0,Vi 0,Vi 0,Vi 0,Vi 0,Vi 0,Vi 0]
abbrev Qbl:List Value:=[.bool false,Vi 0,.bool false,Vi 0,.bool false,Vi 0]
abbrev Qbn:List Value:=[Vi 0,Vi 0,Vi 0,Vi 0,Vi 0,Vi 0,Vi 0,Vi 0,Vi 0,Vi 0,Vi 0,Vi 0,.slice none 0 0,.slice none 0 0,Vi 0]
abbrev Qbp(n0 n1 n2 vl:Int)(o0 o1 o2:Bool):Array Value:=#[Vi n0,Vi n1,Vi n2,.bool o0,.bool o1,.bool o2,Vi vl]
abbrev Qbr:Array Value:=#[Vi 0,Vi 0,Vi 0,Vi 0,Vi 0,.slice none 0 0,.slice none 0 0]
abbrev Bw(w u:World):Prop:=Below w.heap.size w u
abbrev Rt(w:World)(v:Value)(e:Ending)(u:World):Prop:=e=.returned v∧Bw w u
abbrev Re(w:World)(v:Value)(e:Ending)(u:World):Prop:=e=.returned v∧u=w
theorem Lm(t:TypeId)(x:Operand)(ho:op.op=.load t x)(b o:Nat)(cs:List Value){d:TypeDesc}(hc:w.rangeAt b o cs)(hu:P.underlying t=some d)(hi:(P.info? t).map (·.size)=some cs.length)(h:wpList P ops Q rest (a.put op.dst (.agg cs.toArray)) w)(hgd:op.guard=none:=by rfl)(hx:a.eval x=.pointer (some ⟨b,o,none⟩):=by rfl)(hd:d.isRow=true:=by rfl):wpList P ops Q (op::rest) a w:=wpList_load_mid hgd t x ho b o hx cs d hc hu hd hi h
theorem Dn{md:Region.Mode}{S:World→Prop}{listed:Array Bool}{fuel:Nat}(h:Q .normal a w)(hr:Region.ready md ops listed=[]:=by kernel_rfl):wpAnyH P md ops Q S fuel listed a w:=wpAnyH_done hr h fuel
theorem Ek{K:Act→World→Prop}{c:Code}(k:Code.wp P c Q a w)(h:∀a w,Code.wp P c Q a w→K a w:=by assumption):K a w:=h a w k
theorem Qtw(i:Nat)(h:i<2:=by omega):i=0∨i=1:=by omega
theorem Qth(i:Nat)(h:i<3:=by omega):i=0∨i=1∨i=2:=by omega
end Go.Proofs.YtnfdfiholcelaaaGreatDoor
