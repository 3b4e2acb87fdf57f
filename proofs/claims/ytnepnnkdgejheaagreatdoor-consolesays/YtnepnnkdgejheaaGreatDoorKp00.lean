import Derived.Deep.RegionHeld3
import Derived.Deep.MidRow
import Derived.WalkKit
import Derived.KernelRfl
import Derived.Test.YtnepnnkdgejheaaGreatDoorProg
import Derived.Below
set_option maxRecDepth 100000
set_option maxHeartbeats 20000000
namespace Go.Proofs.YtnepnnkdgejheaaGreatDoor
open Go.RowKit
abbrev Vi(x:Int):Value:=.int .i64 x
abbrev Ad(b o:Nat):Addr:=⟨b,o,none⟩
def Hd(p : Prop): Prop := p
theorem Hd.o{p : Prop}(h : Hd p): p := h
abbrev V6:= World
abbrev V7:= ByteArray
abbrev V8:= Option Addr
abbrev V9:= List Int
abbrev Va(f : Nat)(vs : Array Value)(w : World)(Q : Ending -> World -> Prop): Prop := Calls Tryz.prog f vs w Q
abbrev V0(u w : World)(o : Nat)(x : Int): Prop := u.cell? (Ad w.heap.size o) = some (Vi x)
abbrev V1(u w : World)(o : Nat)(v : Value): Prop := u.cell? (Ad w.heap.size o) = some v
abbrev V2(u : World)(b o : Nat)(x : Int): Prop := u.cell? (Ad b o) = some (Vi x)
abbrev V3(u w : World)(o : Nat)(x : Int): Prop := u.cell? (Ad (w.heap.size + 1) o) = some (Vi x)
abbrev V4(u w : World)(o : Nat)(x : Int): Prop := u.cell? (Ad (w.heap.size + 1 + 1) o) = some (Vi x)
abbrev Ve(b o : Nat): Value := .pointer (some (Ad b o))
abbrev Vf(b o n c : Nat): Value := .slice (some (Ad b o)) n c
attribute [simp, go_sem] V0 V1 V2 V3 V4
theorem Vb{b : Nat}{w : World}: Below b w w.drew := (Below.refl b w).drew
theorem V5{w0 : World}{a : Addr}{v : Value}(x : w0.cell? a = some v): ∀ w, Below w0.heap.size w0 w -> w.cell? a = some v := fun _ h => (h.cell (World.block_lt_of_cell? w0 a x)).trans x
end Go.Proofs.YtnepnnkdgejheaaGreatDoor
namespace Go.Proofs.YtnepnnkdgejheaaGreatDoor
open Go.RowKit
variable {P:Program}{Q:Exit->Act->World->Prop}{V:Ending}{a:Act}{b:Bool}{f j t:Nat}{o oi op:Oper}{ops:Array Oper}{rest:List Oper}{tm vs:Array Value}{v:Value}{w:V6}
theorem Sm{u:V6}{Q:Ending->World->Prop}(h:Calls P f vs w fun e w'=>e=V/\w'=u)(k:Q V u):Calls P f vs w Q:=h.mono (by rintro e w' ⟨rfl,rfl⟩;exact k)
theorem Sb{R:V6->Prop}{Q:Ending->World->Prop}(h:Calls P f vs w fun e w'=>e=V/\R w')(k:∀w',R w'->Q V w'):Calls P f vs w Q:=h.mono (by rintro e w' ⟨rfl,h2⟩;exact k w' h2)
theorem Lq(t:TypeId)(x:Operand)(_ho:op.op=.load t x)(h:wpList P ops Q (op::rest) a w):wpList P ops Q (op::rest) a w:=h
theorem Sq(t:TypeId)(x y:Operand)(_ho:op.op=.store t x y)(h:wpList P ops Q (op::rest) a w):wpList P ops Q (op::rest) a w:=h
theorem Wr(x:Int)(h0:-9223372036854775808<=x:=by omega)(h1:x<=9223372036854775807:=by omega):IntKind.i64.wrap x=x:=by rw[IntKind.wrap_i64];omega
def okT(md:Region.Mode)(ops:Array Oper)(listed:Array Bool)(i:Nat):Bool:=Region.noSelect ops&&(Region.free md ops listed i&&(Region.ready md ops listed).contains i)
theorem AJ{a c:Bool}(h:(a&&(b&&c))=true):a=true/\b=true/\c=true:=by simpa using h
section
variable {P : Program} {ops : Array Oper} {Q : Exit -> Act -> World -> Prop} {md : Region.Mode} {S : World -> Prop} {fuel : Nat} {listed : Array Bool} {a : Act} {w : World}
theorem Tk(i:Nat)(hi:ops[i]?=some oi)(hy:YieldsIf P ops S oi v a)(hS:S w)(h:wpAnyH P md ops Q S fuel (listed.setIfInBounds i true) (a.put oi.dst v) w)(hf:okT md ops listed i=true:=by kernel_rfl)(hQ:∀c a w,Q (.panic c) (a.put oi.dst v) w->Q (.panic c) a w:=by exact fun _ _ _ h=>h):wpAnyH P md ops Q S (fuel+1) listed a w:=
  wpAnyH_take hi (AJ hf).1 (AJ hf).2.1 (AJ hf).2.2 hQ hy hS h
theorem Tq(i:Nat)(hS:S w)(h:wpAnyH P md ops Q S fuel (listed.setIfInBounds i true) (a.put oi.dst v) w)(hi:ops[i]?=some oi:=by rfl)(hf:okT md ops listed i=true:=by kernel_rfl)(hQ:∀c a w,Q (.panic c) (a.put oi.dst v) w->Q (.panic c) a w:=by exact fun _ _ _ h=>h)(hw:Region.wanted oi (yielded ops a.tmps)=true:=by rfl)(hy:∀w,S w->(execOp a.eval oi).run P w=.ok (.value v) w:=by intro w hSw;clear hSw;go_simp;(try with_reducible rfl)):wpAnyH P md ops Q S (fuel+1) listed a w:=
  wpAnyH_take hi (AJ hf).1 (AJ hf).2.1 (AJ hf).2.2 hQ (.inl ⟨hw,hy⟩) hS h
theorem Tp(i:Nat)(h:wpAnyH P md ops Q S fuel (listed.setIfInBounds i true) (a.put oi.dst v) w)(hi:ops[i]?=some oi:=by rfl)(hf:okT md ops listed i=true:=by kernel_rfl)(hQ:∀c a w,Q (.panic c) (a.put oi.dst v) w->Q (.panic c) a w:=by exact fun _ _ _ h=>h)(hw:Region.wanted oi (yielded ops a.tmps)=true:=by rfl)(hy:∀w,S w->(execOp a.eval oi).run P w=.ok (.value v) w:=by intro w hSw;(try dsimp only at hSw);go_simp;(try with_reducible rfl))(hS:S w:=by assumption):wpAnyH P md ops Q S (fuel+1) listed a w:=
  wpAnyH_take hi (AJ hf).1 (AJ hf).2.1 (AJ hf).2.2 hQ (.inl ⟨hw,hy⟩) hS h
theorem Th(i:Nat)(hi:ops[i]?=some oi)(hy:∀w,S w->(execOp a.eval oi).run P w=.ok (.value v) w)(hS:S w)(h:wpAnyH P md ops Q S fuel (listed.setIfInBounds i true) (a.put oi.dst v) w)(hf:okT md ops listed i=true:=by kernel_rfl)(hQ:∀c a w,Q (.panic c) (a.put oi.dst v) w->Q (.panic c) a w:=by exact fun _ _ _ h=>h)(hw:Region.wanted oi (yielded ops a.tmps)=true:=by rfl):wpAnyH P md ops Q S (fuel+1) listed a w:=
  wpAnyH_take hi (AJ hf).1 (AJ hf).2.1 (AJ hf).2.2 hQ (.inl ⟨hw,hy⟩) hS h
theorem Ts(i:Nat)(hS:S w)(h:wpAnyH P md ops Q S fuel (listed.setIfInBounds i true) (a.put oi.dst undef) w)(hi:ops[i]?=some oi:=by rfl)(hf:okT md ops listed i=true:=by kernel_rfl)(hQ:∀c a w,Q (.panic c) (a.put oi.dst undef) w->Q (.panic c) a w:=by exact fun _ _ _ h=>h)(hw:Region.wanted oi (yielded ops a.tmps)=false:=by rfl):wpAnyH P md ops Q S (fuel+1) listed a w:=
  wpAnyH_take hi (AJ hf).1 (AJ hf).2.1 (AJ hf).2.2 hQ (.inr ⟨hw,rfl⟩) hS h
theorem Ra(i:Nat)(h:∀K':Act->World->Prop,Shut (∀a w,S w->(S w->wpAnyH P md ops Q S fuel (listed.setIfInBounds i true) a w)->K' a w)->if Region.wanted o (yielded ops a.tmps)=true then Oper.wp P o a w K' Q else K' (a.put o.dst undef) w)(hi:ops[i]?=some o:=by rfl)(hr:Region.ready md ops listed=[i]:=by kernel_rfl):wpAnyH P md ops Q S (fuel+1) listed a w:=
  wpAnyH_ready hr (by simp) (AllReadyH.cons hi h AllReadyH.nil)
theorem Rb{p:Oper}(i j:Nat)(h:∀K':Act->World->Prop,Shut (∀a w,S w->(S w->wpAnyH P md ops Q S fuel (listed.setIfInBounds i true) a w)->K' a w)->if Region.wanted o (yielded ops a.tmps)=true then Oper.wp P o a w K' Q else K' (a.put o.dst undef) w)(k:∀K':Act->World->Prop,Shut (∀a w,S w->(S w->wpAnyH P md ops Q S fuel (listed.setIfInBounds j true) a w)->K' a w)->if Region.wanted p (yielded ops a.tmps)=true then Oper.wp P p a w K' Q else K' (a.put p.dst undef) w)(hi:ops[i]?=some o:=by rfl)(hj:ops[j]?=some p:=by rfl)(hr:Region.ready md ops listed=[i,j]:=by kernel_rfl):wpAnyH P md ops Q S (fuel+1) listed a w:=
  wpAnyH_ready hr (by simp) (AllReadyH.cons hi h (AllReadyH.cons hj k AllReadyH.nil))
end
theorem Ly{α:Type}:(∀(xs:List α) (i:Nat) (h:i<xs.toArray.size),xs.toArray[i]=xs[i]'(by simpa using h))/\(∀(x:α) (xs:List α) (i:Nat) (h:i+1<(x::xs).length),(x::xs)[i+1]=xs[i]'(by simpa using h))/\(∀(x:α) (xs:List α) (h:0<(x::xs).length),(x::xs)[0]=x)/\
    (∀(xs:List α) (i:Nat) (x:α),xs.toArray.setIfInBounds i x=(xs.set i x).toArray)/\(∀(x:α) (xs:List α) (i:Nat) (y:α),(x::xs).set (i+1) y=x::xs.set i y)/\(∀(x:α) (xs:List α) (y:α),(x::xs).set 0 y=y::xs):=
  ⟨fun _ _ _=>rfl,fun _ _ _ _=>rfl,fun _ _ _=>rfl,fun _ _ _=>by simp,fun _ _ _ _=>rfl,fun _ _ _=>rfl⟩
abbrev Kc(u:V6)(b o:Nat)(v:Value):Prop:=u.cell? (Ad b o)=some v
attribute [simp, go_sem] Kc
abbrev Qaa:Array Value:=#[Vi 0,Vi 0,Vi 0,.bool false,.bool false,.bool false,Vi 0,Vi 0,Vi 0,Vi 0,.bool false,.bool false,.bool false,Vi 0,Vi 0,Vi 0,Vi 0,.bool false,.bool false,.bool false,Vi 0,.slice none 0 0,.slice none 0 0,Vi 0,Vi 0,Vi 0,Vi 0,Vi 0,Vi 0,Vi 0]
abbrev Qac(G0 G1 G2 G3:Nat):List Value:=[Vi (-4000),Vi 4000,Vi 5,Vi 20,Vi 3,Vi 100,Vi 30,Vi 5,Vi 20,Vi 3,Vi 3,Vi 60,.slice (some (Ad G0 0)) 2 2,.slice (some (Ad G1 0)) 2 2,Vi 2,Vi (-4000),Vi 4000,Vi 5,Vi 20,Vi 3,Vi 100,Vi 30,Vi 5,Vi 20,Vi 3,Vi 3,Vi 60,.slice (some (Ad G2 0)) 2 2,.slice (some (Ad G3 0)) 2 2,Vi 2,Vi 10,Vi 3]
abbrev Qad(G0 k0 G1 k1:Nat):List Value:=[Vi 0,Vi 0,Vi 0,.bool false,.bool false,.bool false,Vi 0,Vi 0,Vi 0,Vi 0,.bool false,.bool false,.bool false,Vi 0,Vi 0,Vi 0,Vi 0,.bool false,.bool false,.bool false,Vi 0,.slice (some (Ad G0 0)) k0 k0,.slice (some (Ad G1 0)) k1 k1,Vi 0,Vi 0,Vi 0,Vi 0,Vi 0,Vi 0,Vi 0]
abbrev Qaf(a0 a1 a2 a3 a4 a5 a6 a7 a8 a9 a10 a11 a14 b0 b1 b2 b3 b4 b5 b6 b7 b8 b9 b10 b11 b14 c0 c1:Int)(p q r s:Option Addr)(al zl bl yl:List Int)(cn cm dn dm:Nat):Array Value:=#[Vi a0,Vi a1,Vi a2,Vi a3,Vi a4,Vi a5,Vi a6,Vi a7,Vi a8,Vi a9,Vi a10,Vi a11,.slice p al.length cn,.slice q zl.length cm,Vi a14,Vi b0,Vi b1,Vi b2,Vi b3,Vi b4,Vi b5,Vi b6,Vi b7,Vi b8,Vi b9,Vi b10,Vi b11,.slice r bl.length dn,.slice s yl.length dm,Vi b14,Vi c0,Vi c1]
abbrev Qag:List Value:=[Vi 0,Vi 0,Vi 0,.bool false,.bool false,.bool false,Vi 0,Vi 0,Vi 0,Vi 0,.bool false,.bool false,.bool false,Vi 0,Vi 0,Vi 0,Vi 0,.bool false,.bool false,.bool false,Vi 0,.slice none 0 0,.slice none 0 0,Vi 0,Vi 0,Vi 0,Vi 0,Vi 0,Vi 0,Vi 0]
abbrev Qah:Array Value:=#[Vi 0,Vi 0,Vi 0,Vi 0,Vi 0,Vi 0,Vi 0,Vi 0,Vi 0,Vi 0,Vi 0,Vi 0,.slice none 0 0,.slice none 0 0,Vi 0,Vi 0,Vi 0,Vi 0,Vi 0,Vi 0,Vi 0,Vi 0,Vi 0,Vi 0,Vi 0,Vi 0,Vi 0,.slice none 0 0,.slice none 0 0,Vi 0,Vi 10,Vi 3]
abbrev Qai(a0 a1 a2 a3 a4 a5 a6 a7 a8 a9 a10 a11 a14:Int)(p q:Option Addr)(n cn m cm:Nat):Array Value:=#[Vi a0,Vi a1,Vi a2,Vi a3,Vi a4,Vi a5,Vi a6,Vi a7,Vi a8,Vi a9,Vi a10,Vi a11,.slice p n cn,.slice q m cm,Vi a14]
abbrev Qaj(G0 G1 G2 G3:Nat):Array Value:=#[Vi (-4000),Vi 4000,Vi 5,Vi 20,Vi 3,Vi 100,Vi 30,Vi 5,Vi 20,Vi 3,Vi 3,Vi 60,.slice (some (Ad G0 0)) 2 2,.slice (some (Ad G1 0)) 2 2,Vi 2,Vi (-4000),Vi 4000,Vi 5,Vi 20,Vi 3,Vi 100,Vi 30,Vi 5,Vi 20,Vi 3,Vi 3,Vi 60,.slice (some (Ad G2 0)) 2 2,.slice (some (Ad G3 0)) 2 2,Vi 2,Vi 10,Vi 3]
abbrev Qak(a0 a1 a2 a3 a5 a6 a7 a8 a9 a10 a11 a14 b0 b1 b2 b3 b5 b6 b7 b8 b9 b10 b11 b14 c0 c1:Int)(k0 cn cm k1 dn dm:Nat)(p q r s:Option Addr)(al zl bl yl:List Int):Array Value:=#[Vi a0,Vi a1,Vi a2,Vi a3,Vi (k0:Int),Vi a5,Vi a6,Vi a7,Vi a8,Vi a9,Vi a10,Vi a11,.slice p al.length cn,.slice q zl.length cm,Vi a14,Vi b0,Vi b1,Vi b2,Vi b3,Vi (k1:Int),Vi b5,Vi b6,Vi b7,Vi b8,Vi b9,Vi b10,Vi b11,.slice r bl.length dn,.slice s yl.length dm,Vi b14,Vi c0,Vi c1]
abbrev Qal(G0 k0 G1 k1:Nat):Array Value:=#[Vi 0,Vi 0,Vi 0,.bool false,.bool false,.bool false,Vi 0,Vi 0,Vi 0,Vi 0,.bool false,.bool false,.bool false,Vi 0,Vi 0,Vi 0,Vi 0,.bool false,.bool false,.bool false,Vi 0,.slice (some (Ad G0 0)) k0 k0,.slice (some (Ad G1 0)) k1 k1,Vi 0,Vi 0,Vi 0,Vi 0,Vi 0,Vi 0,Vi 0]
abbrev Qam(n0 n1 n2 vl:Int)(o0 o1 o2:Bool):List Value:=[Vi n0,Vi n1,Vi n2,.bool o0,.bool o1,.bool o2,Vi vl]
abbrev Qan:Array Value:=#[Vi 0,Vi 0,Vi 0,Vi 0,Vi 0,Vi 0,Vi 0,Vi 0,Vi 0,Vi 0,Vi 0,Vi 0,.slice none 0 0,.slice none 0 0,Vi 0,Vi 0,Vi 0,Vi 0,Vi 0,Vi 0,Vi 0,Vi 0,Vi 0,Vi 0,Vi 0,Vi 0,Vi 0,.slice none 0 0,.slice none 0 0,Vi 0,Vi 0,Vi 0]
abbrev Qao(a0 a1 a2 a3 a5 a6 a7 a8 a9 a10 a11 a14 b0 b1 b2 b3 b5 b6 b7 b8 b9 b10 b11 b14 c0 c1:Int)(k0 n cn m cm k1 n' dn m' dm:Nat)(p q r s:Option Addr):Array Value:=#[Vi a0,Vi a1,Vi a2,Vi a3,Vi (k0:Int),Vi a5,Vi a6,Vi a7,Vi a8,Vi a9,Vi a10,Vi a11,.slice p n cn,.slice q m cm,Vi a14,Vi b0,Vi b1,Vi b2,Vi b3,Vi (k1:Int),Vi b5,Vi b6,Vi b7,Vi b8,Vi b9,Vi b10,Vi b11,.slice r n' dn,.slice s m' dm,Vi b14,Vi c0,Vi c1]
abbrev Qap(b0 b1 b2 b3 b5 b6 b7 b8 b9 b10 b11 b14:Int)(k1 dn dm:Nat)(r s:Option Addr)(bl yl:List Int):Array Value:=#[Vi b0,Vi b1,Vi b2,Vi b3,Vi (k1:Int),Vi b5,Vi b6,Vi b7,Vi b8,Vi b9,Vi b10,Vi b11,.slice r bl.length dn,.slice s yl.length dm,Vi b14]
abbrev Qar(b:Nat->Int)(o:Nat->Bool)(l:Int):Array Value:=#[Vi (b 0),Vi (b 1),Vi (b 2),.bool (o 0),.bool (o 1),.bool (o 2),Vi l]
abbrev Qas(L H U B M:Int)(a z:Option Addr)(al zl:List Int)(ca cz:Nat):Array Value:=#[Vi L,Vi H,Vi U,Vi B,Vi M,.slice a al.length ca,.slice z zl.length cz]
abbrev Qat(ba oa ca bz oz cz:Nat)(a z:List Int):Array Value:=#[.slice (some (Ad ba oa)) a.length ca,.slice (some (Ad bz oz)) z.length cz]
abbrev Qau(a0 a1 a2 a3 a5 a6 a7 a8 a9 a10 a11 a14:Int)(k0 cn cm:Nat)(p q:Option Addr)(al zl:List Int):Array Value:=#[Vi a0,Vi a1,Vi a2,Vi a3,Vi (k0:Int),Vi a5,Vi a6,Vi a7,Vi a8,Vi a9,Vi a10,Vi a11,.slice p al.length cn,.slice q zl.length cm,Vi a14]
abbrev Qaw(t:Nat->Bool)(s:Nat->Int):Array Value:=#[.bool (t 0),Vi (s 0),.bool (t 1),Vi (s 1),.bool (t 2),Vi (s 2)]
abbrev Qay:Array Value:=#[Vi 0,Vi 0,Vi 0,.bool false,.bool false,.bool false,Vi 0]
abbrev Qaz:Array Value:=#[.bool false,Vi 0,.bool false,Vi 0,.bool false,Vi 0]
abbrev Qba:List Value:=[Vi 0,Vi 0,Vi 0,Vi 0,Vi 0,Vi 0,Vi 0,Vi 0,Vi 0,Vi 0,Vi 0,Vi 0,Vi 0,Vi 0,Vi 0]
abbrev Qbb(a0 a1 N a3 a4 a5 a6 a7 a8 a9 a10 a11 a14:Int)(p q:Option Addr)(n cn m cm:Nat):Array Value:=#[Vi a0,Vi a1,Vi N,Vi a3,Vi a4,Vi a5,Vi a6,Vi a7,Vi a8,Vi a9,Vi a10,Vi a11,.slice p n cn,.slice q m cm,Vi a14]
abbrev Qbf(G0 k0:Nat):List Value:=[Vi 0,Vi 0,Vi 0,.bool false,.bool false,.bool false,Vi 0,Vi 0,Vi 0,Vi 0,.bool false,.bool false,.bool false,Vi 0,Vi 0,Vi 0,Vi 0,.bool false,.bool false,.bool false,Vi 0,.slice (some (Ad G0 0)) k0 k0,.slice none 0 0,Vi 0,Vi 0,Vi 0,Vi 0,Vi 0,Vi 0,Vi 0]
abbrev Qbg:List Value:=[Vi 0,Vi 0,Vi 0,Vi 0,Vi 0,Vi 0,Vi 0,Vi 0,Vi 0,Vi 0,Vi 0,Vi 0,.slice none 0 0,.slice none 0 0,Vi 0,Vi 0,Vi 0,Vi 0,Vi 0,Vi 0,Vi 0,Vi 0,Vi 0,Vi 0,Vi 0,Vi 0,Vi 0,.slice none 0 0,.slice none 0 0,Vi 0,Vi 10,Vi 3]
abbrev Qbh:List Value:=[Vi 0,Vi 0,Vi 0,Vi 0,Vi 0,Vi 0,Vi 0,Vi 0,Vi 0,Vi 0,Vi 0,Vi 0,.slice none 0 0,.slice none 0 0,Vi 0,Vi 0,Vi 0,Vi 0,Vi 0,Vi 0,Vi 0,Vi 0,Vi 0,Vi 0,Vi 0,Vi 0,Vi 0,.slice none 0 0,.slice none 0 0,Vi 0,Vi 0,Vi 0]
abbrev Qbi:List Value:=[Vi 0,Vi 0,Vi 0,Vi 0,Vi 0,Vi 0,Vi 0,Vi 0,Vi 0,Vi 0,Vi 0,Vi 0,.slice none 0 0,.slice none 0 0,Vi 0]
abbrev Qbk:List Value:=[Vi 0,Vi 0,Vi 0,.bool false,.bool false,.bool false,Vi 0]
abbrev Qbm:Array Value:=#[Vi 0,Vi 0,Vi 0,Vi 0,Vi 0,Vi 0,Vi 0,Vi 0,Vi 0,Vi 0,Vi 0,Vi 0,Vi 0,Vi 0,Vi 0]
abbrev Qbn:List Value:=[.bool false,Vi 0,.bool false,Vi 0,.bool false,Vi 0]
abbrev Qbp(n0 n1 n2 vl:Int)(o0 o1 o2:Bool):Array Value:=#[Vi n0,Vi n1,Vi n2,.bool o0,.bool o1,.bool o2,Vi vl]
abbrev Qbr:Array Value:=#[Vi 0,Vi 0,Vi 0,Vi 0,Vi 0,.slice none 0 0,.slice none 0 0]
abbrev Qbv:List Value:=[Vi 0,Vi 0,Vi 0,Vi 0,Vi 0,Vi 0,Vi 0,.bool false]
abbrev Qbw:Array Value:=#[Vi 2147483647,Vi (-2147483647),Vi 2147483647,Vi (-2147483647)]
abbrev Bw(w u:V6):Prop:=Below w.heap.size w u
abbrev Rt(w:V6)(v:Value)(e:Ending)(u:V6):Prop:=e=.returned v/\Bw w u
abbrev Re(w:V6)(v:Value)(e:Ending)(u:V6):Prop:=e=.returned v/\u=w
theorem Lm(t:TypeId)(x:Operand)(ho:op.op=.load t x)(b o:Nat)(cs:List Value){d:TypeDesc}(hc:w.rangeAt b o cs)(hu:P.underlying t=some d)(hi:(P.info? t).map (·.size)=some cs.length)(h:wpList P ops Q rest (a.put op.dst (.agg cs.toArray)) w)(hgd:op.guard=none:=by rfl)(hx:a.eval x=.pointer (some ⟨b,o,none⟩):=by rfl)(hd:d.isRow=true:=by rfl):wpList P ops Q (op::rest) a w:=wpList_load_mid hgd t x ho b o hx cs d hc hu hd hi h
theorem Dn{md:Region.Mode}{S:V6->Prop}{listed:Array Bool}{fuel:Nat}(h:Q .normal a w)(hr:Region.ready md ops listed=[]:=by kernel_rfl):wpAnyH P md ops Q S fuel listed a w:=wpAnyH_done hr h fuel
theorem Ek{K:Act->World->Prop}{c:Code}(k:Code.wp P c Q a w)(h:∀a w,Code.wp P c Q a w->K a w:=by assumption):K a w:=h a w k
theorem Qtw(i:Nat)(h:i<2:=by omega):i=0\/i=1:=by omega
theorem Qth(i:Nat)(h:i<3:=by omega):i=0\/i=1\/i=2:=by omega
theorem Zg(ht:tm[t]?=some (.bool b))(hg:o.guard=some (j,b):=by rfl)(hj:(ops[j]?).bind (·.dst)=some t:=by rfl):Region.wanted o (yielded ops tm)=true:=by
 unfold Region.wanted yielded
 simp[hg,hj,ht]
theorem Zh(ht:tm[t]?=some (.bool (!b)))(hg:o.guard=some (j,b):=by rfl)(hj:(ops[j]?).bind (·.dst)=some t:=by rfl):Region.wanted o (yielded ops tm)=false:=by
 unfold Region.wanted yielded
 simp[hg,hj,ht]
end Go.Proofs.YtnepnnkdgejheaaGreatDoor
