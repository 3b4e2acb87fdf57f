import Derived.Maps.AppendAt
import Derived.Shelf.SlIter.Collect
import Derived.Test.YtnfdfiholcelaaaGreatDoorJh00
import Derived.Test.YtnfdfiholcelaaaGreatDoorJh11
import Derived.Test.YtnfdfiholcelaaaGreatDoorJh14
import Derived.Test.YtnfdfiholcelaaaGreatDoorJh20
set_option maxRecDepth 100000
set_option maxHeartbeats 20000000
namespace Go.Proofs.YtnfdfiholcelaaaGreatDoor
open Go.RowKit Plain Tryz
theorem grE_noise{L H N P M R:Int}(h:grE L H N P M R=0):0≤N∧N≤1000:=by
 have:grB L H N P M R=true:=by
  unfold grE at h
  split at h
  · assumption
  · omega
 have g:=grB_true this;exact⟨g.n0,g.n1⟩
def eAx(a0 a1 a2 a3 a4 a5 a6 a7 a8 a9 a10 a11 a14:Int)(al zl:List Int):Nat→Int
 |0=>rgE a4 a3
 |1=>Zdh a8 a9
 |2=>arE a5 a6 a7 a10
 |3=>grE a0 a1 a2 (a3+a7) ((a4-1)*a5) ((a4-1)*a6)
 |4=>ruE a0 a1 a11 a14 ((a4-1)*a5) al zl
 |_=>fmE a8 a2 a0 a1
def eCr(a0 a1 a2 a3 a4 a5 a6 a7 a8 a9 a10 a11 a14:Int)(al zl:List Int)(b0 b1 b2 b3 b4 b5 b6 b7 b8 b9 b10 b11 b14:Int)(bl yl:List Int)(c0 c1:Int)(k:Nat):Int:=if k<6 then eAx a0 a1 a2 a3 a4 a5 a6 a7 a8 a9 a10 a11 a14 al zl k else if k<12 then eAx b0 b1 b2 b3 b4 b5 b6 b7 b8 b9 b10 b11 b14 bl yl (k-6) else Zdh c0 c1
def gCr(k:Nat):Nat:=if k<12 then[176,178,179,181,183,185].getD (k%6) 0 else 116
def cbCr(B0 B1 B:Nat)(k:Nat):Array Value:=if k<6 then#[.pointer (some (Ad B0 0))] else if k<12 then#[.pointer (some (Ad B1 0))] else#[.pointer (some (Ad B 0))]
def AxH(u:World)(B:Nat)(a0 a1 a2 a3 a4 a5 a6 a7 a8 a9 a10 a11 a14:Int)(p q:Option Addr)(n m cn cm:Nat):Prop:=u.heap[B]?=some (.cells #[Vi a0,Vi a1,Vi a2,Vi a3,Vi a4,Vi a5,Vi a6,Vi a7,Vi a8,Vi a9,Vi a10,Vi a11,.slice p n cn,.slice q m cm,Vi a14] 26 (0,0))
section
variable {u u' : World} {B : Nat} {a0 a1 a2 a3 a4 a5 a6 a7 a8 a9 a10 a11 a14 : Int} {p q : Option Addr} {n m cn cm : Nat}
theorem AxH.axb(h:AxH u B a0 a1 a2 a3 a4 a5 a6 a7 a8 a9 a10 a11 a14 p q n m cn cm):AxB u B a0 a1 a2 a3 a4 a5 a6 a7 a8 a9 a10 a11 a14 p q n m cn cm:=by
 unfold AxH at h
 refine⟨?_,?_,?_,?_,?_,?_,?_,?_,?_,?_,?_,?_,?_,?_,?_⟩<;>simp[World.cell?,h]
theorem AxH.lt(h:AxH u B a0 a1 a2 a3 a4 a5 a6 a7 a8 a9 a10 a11 a14 p q n m cn cm):B<u.heap.size:=(Array.getElem?_eq_some_iff.1 h).1
theorem AxH.later(h:AxH u B a0 a1 a2 a3 a4 a5 a6 a7 a8 a9 a10 a11 a14 p q n m cn cm)(hb:Below u.heap.size u u'):AxH u' B a0 a1 a2 a3 a4 a5 a6 a7 a8 a9 a10 a11 a14 p q n m cn cm:=(hb.block B h.lt).trans h
theorem AxH.grown{base k:Nat}{v:Value}{xs:List Value}(h:AxH u B a0 a1 a2 a3 a4 a5 a6 a7 a8 a9 a10 a11 a14 p q n m cn cm)(ho:u.ownsRow base 142 1 v k xs)(hg:u.grownBy u' v.ownBlock):AxH u' B a0 a1 a2 a3 a4 a5 a6 a7 a8 a9 a10 a11 a14 p q n m cn cm:=by
 refine(hg.block B h.lt ?_).trans h
 rcases ownsRow_ne_a ho h (fun cur e=>absurd (Obj.cells.inj e).2.1 (by decide)) with e|e
 · rw[e];simp
 · exact fun e'=>e e'.symm
end
def CrH(u:World)(B:Nat)(cs:List Value):Prop:=u.heap[B]?=some (.cells cs.toArray 29 (0,0))
theorem CrH.lt{u:World}{B:Nat}{cs:List Value}(h:CrH u B cs):B<u.heap.size:=(Array.getElem?_eq_some_iff.1 h).1
theorem CrH.later{u u':World}{B:Nat}{cs:List Value}(h:CrH u B cs)(hb:Below u.heap.size u u'):CrH u' B cs:=(hb.block B h.lt).trans h
theorem CrH.range{u:World}{B:Nat}{cs:List Value}(h:CrH u B cs):u.rangeAt B 0 cs:=fun j v hv=>by
 unfold CrH at h
 simp only[World.cell?,h,Nat.zero_add];simp only[Option.isSome_none,Bool.false_eq_true,if_false]
 simpa using hv
theorem CrH.grown{u u':World}{B base k:Nat}{v:Value}{xs cs:List Value}(h:CrH u B cs)(ho:u.ownsRow base 142 1 v k xs)(hg:u.grownBy u' v.ownBlock):CrH u' B cs:=by
 refine(hg.block B h.lt ?_).trans h
 rcases ownsRow_ne_a ho h (fun cur e=>absurd (Obj.cells.inj e).2.1 (by decide)) with e|e
 · rw[e];simp
 · exact fun e'=>e e'.symm
theorem func_one(l:List Value)(h:∀v∈l,∃g cb,v=.func (.func g) #[] cb):∀v∈l,v.oneCell'=true:=fun v hv=>by obtain⟨g,cb,rfl⟩:=h v hv;rfl
theorem Zje(a0 a1 a2 a3 a4 a5 a6 a7 a8 a9 a10 a11 a14:Int)(p q:Option Addr)(n m cn cm:Nat)(w:World):Calls prog 115 #[.agg #[Vi a0,Vi a1,Vi a2,Vi a3,Vi a4,Vi a5,Vi a6,Vi a7,Vi a8,Vi a9,Vi a10,Vi a11,.slice p n cn,.slice q m cm,Vi a14]] w fun e w'=>∃B0 G,e=.returned (.slice (some (Ad G 0)) 6 6)∧AxH w' B0 a0 a1 a2 a3 a4 a5 a6 a7 a8 a9 a10 a11 a14 p q n m cn cm∧(∀j v,([.func (.func 176) #[] #[.pointer (some (Ad B0 0))],.func (.func 178) #[] #[.pointer (some (Ad B0 0))],.func (.func 179) #[] #[.pointer (some (Ad B0 0))],.func (.func 181) #[] #[.pointer (some (Ad B0 0))],.func (.func 183) #[] #[.pointer (some (Ad B0 0))],.func (.func 185) #[] #[.pointer (some (Ad B0 0))]]:List Value)[j]?=some v→w'.cell? ((⟨G,0,none⟩:Addr).add j)=some v)∧Below w.heap.size w w':=by
 refine(axisChecks_any a0 a1 a2 a3 a4 a5 a6 a7 a8 a9 a10 a11 a14 p q n m cn cm w).mono ?_;rintro e w' ⟨rfl,rfl⟩;refine⟨w.heap.size,w.heap.size+1,rfl,?_,?_,Zac (Zaa _ _) (Zaa _ _)⟩
 · exact(Below.heap_alloc _ _ _ (by simp)).trans (World.alloc_heap_new w _)
 · intro j v hj;rw[Addr.add_lit];have hh:=World.alloc_heap_new (w.alloc (.cells #[Vi a0,Vi a1,Vi a2,Vi a3,Vi a4,Vi a5,Vi a6,Vi a7,Vi a8,Vi a9,Vi a10,Vi a11,.slice p n cn,.slice q m cm,Vi a14] 26)) (.cells #[.func (.func 176) #[] #[.pointer (some (Ad w.heap.size 0))],.func (.func 178) #[] #[.pointer (some (Ad w.heap.size 0))],.func (.func 179) #[] #[.pointer (some (Ad w.heap.size 0))],.func (.func 181) #[] #[.pointer (some (Ad w.heap.size 0))],.func (.func 183) #[] #[.pointer (some (Ad w.heap.size 0))],.func (.func 185) #[] #[.pointer (some (Ad w.heap.size 0))]] 142);rw[World.size_alloc] at hh;simp only[World.cell?,hh,Nat.zero_add];simp only[Option.isSome_none,Bool.false_eq_true,if_false]
   simpa using hj
theorem nilf_own(Bs:Nat)(w:World):w.ownsRow Bs 142 1 (.slice none 0 0) 0 []:=⟨rfl,.inl ⟨rfl,rfl⟩⟩
theorem infoF:(prog.info? 142).map (fun i=>(i.zero,i.size,i.bytes))=some (some Value.nilFunc,1,8):=by kernel_rfl
theorem idx_a(y0 y1 y2 y3 y4 y5 y6 y7 y8 y9 y10 y11 y12 y13 y14 y15 y16 y17 y18 y19 y20 y21 y22 y23 y24 y25 y26 y27 y28 y29:Value)(w:World):(Instr.index 27 (.agg #[y0,y1,y2,y3,y4,y5,y6,y7,y8,y9,y10,y11,y12,y13,y14,y15,y16,y17,y18,y19,y20,y21,y22,y23,y24,y25,y26,y27,y28,y29]) (Vi 0)).run prog w=.ok (.agg #[y0,y1,y2,y3,y4,y5,y6,y7,y8,y9,y10,y11,y12,y13,y14]) w:=by kernel_rfl
theorem idx_b(y0 y1 y2 y3 y4 y5 y6 y7 y8 y9 y10 y11 y12 y13 y14 y15 y16 y17 y18 y19 y20 y21 y22 y23 y24 y25 y26 y27 y28 y29:Value)(w:World):(Instr.index 27 (.agg #[y0,y1,y2,y3,y4,y5,y6,y7,y8,y9,y10,y11,y12,y13,y14,y15,y16,y17,y18,y19,y20,y21,y22,y23,y24,y25,y26,y27,y28,y29]) (Vi 1)).run prog w=.ok (.agg #[y15,y16,y17,y18,y19,y20,y21,y22,y23,y24,y25,y26,y27,y28,y29]) w:=by kernel_rfl
theorem range_sub{u:World}{B n:Nat}{cs:List Value}(h:u.rangeAt B 0 cs)(k:Nat):u.rangeAt B k ((cs.drop k).take n):=fun j v hv=>by
 rw[List.getElem?_take] at hv
 split at hv
 · have:=h (k+j) v (by simpa using hv)
   simpa using this
 · cases hv
theorem closures_say(a0 a1 a2 a3 a4 a5 a6 a7 a8 a9 a10 a11 a14:Int)(p q:Option Addr)(al zl:List Int)(cn cm:Nat)(b0 b1 b2 b3 b4 b5 b6 b7 b8 b9 b10 b11 b14:Int)(r s:Option Addr)(bl yl:List Int)(dn dm:Nat)(c0 c1:Int)(B0 B1 B:Nat)(w x:World)(hbw:Below w.heap.size w x)(hA:AxH x B0 a0 a1 a2 a3 a4 a5 a6 a7 a8 a9 a10 a11 a14 p q al.length zl.length cn cm)(hB:AxH x B1 b0 b1 b2 b3 b4 b5 b6 b7 b8 b9 b10 b11 b14 r s bl.length yl.length dn dm)(hC:CrH x B [Vi a0,Vi a1,Vi a2,Vi a3,Vi a4,Vi a5,Vi a6,Vi a7,Vi a8,Vi a9,Vi a10,Vi a11,.slice p al.length cn,.slice q zl.length cm,Vi a14,Vi b0,Vi b1,Vi b2,Vi b3,Vi b4,Vi b5,Vi b6,Vi b7,Vi b8,Vi b9,Vi b10,Vi b11,.slice r bl.length dn,.slice s yl.length dm,Vi b14,Vi c0,Vi c1])
 (hla:al.length≤9223372036854775807∧zl.length≤9223372036854775807∧al.length≤cn∧Lst w p al∧Lst w q zl) (hlb:bl.length≤9223372036854775807∧yl.length≤9223372036854775807∧bl.length≤dn∧Lst w r bl∧Lst w s yl):
 ∀k,k<13→(∀j,j<k→eCr a0 a1 a2 a3 a4 a5 a6 a7 a8 a9 a10 a11 a14 al zl b0 b1 b2 b3 b4 b5 b6 b7 b8 b9 b10 b11 b14 bl yl c0 c1 j=0)→∀u,Below x.heap.size x u→Calls prog (gCr k) (cbCr B0 B1 B k) u fun r u'=>r=.returned (errV (eCr a0 a1 a2 a3 a4 a5 a6 a7 a8 a9 a10 a11 a14 al zl b0 b1 b2 b3 b4 b5 b6 b7 b8 b9 b10 b11 b14 bl yl c0 c1 k))∧Below u.heap.size u u':=by
 have HBW:=Zab hbw;have HLA:=Zab hla;have HLB:=Zab hlb;have HXa:Hid (∀u,Below x.heap.size x u→AxB u B0 a0 a1 a2 a3 a4 a5 a6 a7 a8 a9 a10 a11 a14 p q al.length zl.length cn cm):=Zab (fun u hu=>(hA.later hu).axb);have HXb:Hid (∀u,Below x.heap.size x u→AxB u B1 b0 b1 b2 b3 b4 b5 b6 b7 b8 b9 b10 b11 b14 r s bl.length yl.length dn dm):=Zab (fun u hu=>(hB.later hu).axb);intro k hk hz u hu
 rcases(show k=0∨k=1∨k=2∨k=3∨k=4∨k=5∨k=6∨k=7∨k=8∨k=9∨k=10∨k=11∨k=12 by omega) with rfl|rfl|rfl|rfl|rfl|rfl|rfl|rfl|rfl|rfl|rfl|rfl|rfl
 · exact clo1_any a0 a1 a2 a3 a4 a5 a6 a7 a8 a9 a10 a11 a14 p q al.length zl.length cn cm _ u (HXa.out u hu)
 · exact clo2_any a0 a1 a2 a3 a4 a5 a6 a7 a8 a9 a10 a11 a14 p q al.length zl.length cn cm _ u (HXa.out u hu)
 · exact clo3_any a0 a1 a2 a3 a4 a5 a6 a7 a8 a9 a10 a11 a14 p q al.length zl.length cn cm _ u (HXa.out u hu)
 · have hz:=hz;have z0:=Zdz (hz 0 (by omega));have z2:=Zat (Zes (hz 2 (by omega)));exact clo4_any a0 a1 a2 a3 a4 a5 a6 a7 a8 a9 a10 a11 a14 p q al.length zl.length cn cm z0.1 z2.1 z0.2 ⟨z2.2.2.1.1,by omega⟩ ⟨z2.2.1.1,by omega⟩ _ u (HXa.out u hu)
 · have hz:=hz;have z0:=Zdz (hz 0 (by omega));have z2:=Zat (Zes (hz 2 (by omega)));exact clo5_any a0 a1 a2 a3 a4 a5 a6 a7 a8 a9 a10 a11 a14 p q al zl cn cm z0.1 z2.1 z0.2 ⟨z2.2.2.1.1,by omega⟩ ⟨z2.2.1.1,by omega⟩ HLA.out.1 HLA.out.2.1 HLA.out.2.2.1 _ u (HXa.out u hu) (HLA.out.2.2.2.1.later (HBW.out.trans (hu.mono HBW.out.size))) (HLA.out.2.2.2.2.later (HBW.out.trans (hu.mono HBW.out.size)))
 · have hz:=hz;have z3:=grE_noise (hz 3 (by omega));exact clo6_any a0 a1 a2 a3 a4 a5 a6 a7 a8 a9 a10 a11 a14 p q al.length zl.length cn cm z3 _ u (HXa.out u hu)
 · exact clo1_any b0 b1 b2 b3 b4 b5 b6 b7 b8 b9 b10 b11 b14 r s bl.length yl.length dn dm _ u (HXb.out u hu)
 · exact clo2_any b0 b1 b2 b3 b4 b5 b6 b7 b8 b9 b10 b11 b14 r s bl.length yl.length dn dm _ u (HXb.out u hu)
 · exact clo3_any b0 b1 b2 b3 b4 b5 b6 b7 b8 b9 b10 b11 b14 r s bl.length yl.length dn dm _ u (HXb.out u hu)
 · have hz:=hz;have z0:=Zdz (hz 6 (by omega));have z2:=Zat (Zes (hz 8 (by omega)));exact clo4_any b0 b1 b2 b3 b4 b5 b6 b7 b8 b9 b10 b11 b14 r s bl.length yl.length dn dm z0.1 z2.1 z0.2 ⟨z2.2.2.1.1,by omega⟩ ⟨z2.2.1.1,by omega⟩ _ u (HXb.out u hu)
 · have hz:=hz;have z0:=Zdz (hz 6 (by omega));have z2:=Zat (Zes (hz 8 (by omega)));exact clo5_any b0 b1 b2 b3 b4 b5 b6 b7 b8 b9 b10 b11 b14 r s bl yl dn dm z0.1 z2.1 z0.2 ⟨z2.2.2.1.1,by omega⟩ ⟨z2.2.1.1,by omega⟩ HLB.out.1 HLB.out.2.1 HLB.out.2.2.1 _ u (HXb.out u hu) (HLB.out.2.2.2.1.later (HBW.out.trans (hu.mono HBW.out.size))) (HLB.out.2.2.2.2.later (HBW.out.trans (hu.mono HBW.out.size)))
 · have hz:=hz;have z3:=grE_noise (hz 9 (by omega));exact clo6_any b0 b1 b2 b3 b4 b5 b6 b7 b8 b9 b10 b11 b14 r s bl.length yl.length dn dm z3 _ u (HXb.out u hu)
 · exact check1_any (Vi a0) (Vi a1) (Vi a2) (Vi a3) (Vi a4) (Vi a5) (Vi a6) (Vi a7) (Vi a8) (Vi a9) (Vi a10) (Vi a11) (.slice p al.length cn) (.slice q zl.length cm) (Vi a14) (Vi b0) (Vi b1) (Vi b2) (Vi b3) (Vi b4) (Vi b5) (Vi b6) (Vi b7) (Vi b8) (Vi b9) (Vi b10) (Vi b11) (.slice r bl.length dn) (.slice s yl.length dm) (Vi b14) c0 c1 B u (rangeAt_later hC.range hu)
theorem Zdu{u u':World}{base e size n:Nat}{v:Value}{xs:List Value}(h:u.ownsRow base e size v n xs)(hb:Below u.heap.size u u'):u'.ownsRow base e size v n xs:=by
 obtain⟨hl,h|⟨g,cap,cur,hv,hg,hh,hr⟩⟩:=h
 · exact⟨hl,.inl h⟩
 · exact⟨hl,.inr ⟨g,cap,cur,hv,hg,(hb.block g (Array.getElem?_eq_some_iff.1 hh).1).trans hh,hr⟩⟩
theorem own_lt{u:World}{base e size n:Nat}{v:Value}{xs:List Value}(h:u.ownsRow base e size v n xs):∀k,v.ownBlock=some k→base≤k:=by
 obtain⟨hl,⟨rfl,_⟩|⟨g,cap,cur,rfl,hg,_⟩⟩:=h
 · intro k e;cases e
 · intro k e;cases e;exact hg
theorem lst13(B0 B1 B k:Nat)(hk:k<13):(([.func (.func 176) #[] #[.pointer (some (Ad B0 0))],.func (.func 178) #[] #[.pointer (some (Ad B0 0))],.func (.func 179) #[] #[.pointer (some (Ad B0 0))],.func (.func 181) #[] #[.pointer (some (Ad B0 0))],.func (.func 183) #[] #[.pointer (some (Ad B0 0))],.func (.func 185) #[] #[.pointer (some (Ad B0 0))]]++[.func (.func 176) #[] #[.pointer (some (Ad B1 0))],.func (.func 178) #[] #[.pointer (some (Ad B1 0))],.func (.func 179) #[] #[.pointer (some (Ad B1 0))],.func (.func 181) #[] #[.pointer (some (Ad B1 0))],.func (.func 183) #[] #[.pointer (some (Ad B1 0))],.func (.func 185) #[] #[.pointer (some (Ad B1 0))]]++[.func (.func 116) #[] #[.pointer (some (Ad B 0))]]):List Value)[k]?=some (.func (.func (gCr k)) #[] (cbCr B0 B1 B k)):=by
 rcases(show k=0∨k=1∨k=2∨k=3∨k=4∨k=5∨k=6∨k=7∨k=8∨k=9∨k=10∨k=11∨k=12 by omega) with rfl|rfl|rfl|rfl|rfl|rfl|rfl|rfl|rfl|rfl|rfl|rfl|rfl<;>rfl
theorem hent13(k:Nat)(hk:k<13)(args:Array Value)(w:World):(callFunc (gCr k) args).run prog w=.ok (.enter (gCr k) args) w:=by
 rcases(show k=0∨k=1∨k=2∨k=3∨k=4∨k=5∨k=6∨k=7∨k=8∨k=9∨k=10∨k=11∨k=12 by omega) with rfl|rfl|rfl|rfl|rfl|rfl|rfl|rfl|rfl|rfl|rfl|rfl|rfl<;>kernel_rfl
theorem own13{u:World}{base:Nat}{v:Value}{B0 B1 B:Nat}(h:u.ownsRow base 142 1 v 13 ([.func (.func 176) #[] #[.pointer (some (Ad B0 0))],.func (.func 178) #[] #[.pointer (some (Ad B0 0))],.func (.func 179) #[] #[.pointer (some (Ad B0 0))],.func (.func 181) #[] #[.pointer (some (Ad B0 0))],.func (.func 183) #[] #[.pointer (some (Ad B0 0))],.func (.func 185) #[] #[.pointer (some (Ad B0 0))]]++[.func (.func 176) #[] #[.pointer (some (Ad B1 0))],.func (.func 178) #[] #[.pointer (some (Ad B1 0))],.func (.func 179) #[] #[.pointer (some (Ad B1 0))],.func (.func 181) #[] #[.pointer (some (Ad B1 0))],.func (.func 183) #[] #[.pointer (some (Ad B1 0))],.func (.func 185) #[] #[.pointer (some (Ad B1 0))]]++[.func (.func 116) #[] #[.pointer (some (Ad B 0))]])):∃g cap,v=.slice (some (Ad g 0)) 13 cap∧Clos u (some (Ad g 0)) 13 gCr (cbCr B0 B1 B):=by
 obtain⟨hl,⟨_,h⟩|⟨g,cap,cur,rfl,hg,hh,h1,h2,h3,h4⟩⟩:=h
 · cases h
 · refine⟨g,cap,rfl,.inr ⟨g,0,rfl,fun k hk=>?_⟩⟩;have:=lst13 B0 B1 B k hk;rw[←h4,List.getElem?_take] at this;simp only[World.cell?,hh,Nat.zero_add];simp only[Option.isSome_none,Bool.false_eq_true,if_false];rw[if_pos (by omega)] at this
   simpa using this
theorem infoF':∃i,prog.info? 142=some i∧i.zero=some Value.nilFunc∧i.size=1∧i.bytes=8:=by
 have h:=infoF
 cases hh:prog.info? 142 with
 |none=>rw[hh] at h;cases h
 |some i=>
  rw[hh] at h;simp only[Option.map_some,Option.some.injEq,Prod.mk.injEq] at h;exact⟨i,rfl,h.1,h.2.1,h.2.2⟩
theorem craftCheck_any(a0 a1 a2 a3 a4 a5 a6 a7 a8 a9 a10 a11 a14:Int)(p q:Option Addr)(al zl:List Int)(cn cm:Nat)(b0 b1 b2 b3 b4 b5 b6 b7 b8 b9 b10 b11 b14:Int)(r s:Option Addr)(bl yl:List Int)(dn dm:Nat)(c0 c1:Int)(w:World)(hg:GV w)
 (hla:al.length≤9223372036854775807∧zl.length≤9223372036854775807∧al.length≤cn∧Lst w p al∧Lst w q zl) (hlb:bl.length≤9223372036854775807∧yl.length≤9223372036854775807∧bl.length≤dn∧Lst w r bl∧Lst w s yl):
 Calls prog 64 #[.agg #[Vi a0,Vi a1,Vi a2,Vi a3,Vi a4,Vi a5,Vi a6,Vi a7,Vi a8,Vi a9,Vi a10,Vi a11,.slice p al.length cn,.slice q zl.length cm,Vi a14,Vi b0,Vi b1,Vi b2,Vi b3,Vi b4,Vi b5,Vi b6,Vi b7,Vi b8,Vi b9,Vi b10,Vi b11,.slice r bl.length dn,.slice s yl.length dm,Vi b14,Vi c0,Vi c1]] w fun e w'=>e=.returned (errV (fstN (eCr a0 a1 a2 a3 a4 a5 a6 a7 a8 a9 a10 a11 a14 al zl b0 b1 b2 b3 b4 b5 b6 b7 b8 b9 b10 b11 b14 bl yl c0 c1) 13))∧Below w.heap.size w w':=by
 have HG:=Zab hg;have HLA:=Zab hla;have HLB:=Zab hlb;have HC0:Hid (CrH (w.alloc (.cells #[Vi a0,Vi a1,Vi a2,Vi a3,Vi a4,Vi a5,Vi a6,Vi a7,Vi a8,Vi a9,Vi a10,Vi a11,.slice p al.length cn,.slice q zl.length cm,Vi a14,Vi b0,Vi b1,Vi b2,Vi b3,Vi b4,Vi b5,Vi b6,Vi b7,Vi b8,Vi b9,Vi b10,Vi b11,.slice r bl.length dn,.slice s yl.length dm,Vi b14,Vi c0,Vi c1] 29)) w.heap.size [Vi a0,Vi a1,Vi a2,Vi a3,Vi a4,Vi a5,Vi a6,Vi a7,Vi a8,Vi a9,Vi a10,Vi a11,.slice p al.length cn,.slice q zl.length cm,Vi a14,Vi b0,Vi b1,Vi b2,Vi b3,Vi b4,Vi b5,Vi b6,Vi b7,Vi b8,Vi b9,Vi b10,Vi b11,.slice r bl.length dn,.slice s yl.length dm,Vi b14,Vi c0,Vi c1]):=Zab (World.alloc_heap_new w _);have HR:Hid ((w.alloc (.cells #[Vi a0,Vi a1,Vi a2,Vi a3,Vi a4,Vi a5,Vi a6,Vi a7,Vi a8,Vi a9,Vi a10,Vi a11,.slice p al.length cn,.slice q zl.length cm,Vi a14,Vi b0,Vi b1,Vi b2,Vi b3,Vi b4,Vi b5,Vi b6,Vi b7,Vi b8,Vi b9,Vi b10,Vi b11,.slice r bl.length dn,.slice s yl.length dm,Vi b14,Vi c0,Vi c1] 29)).rangeAt w.heap.size 0 [Vi a0,Vi a1,Vi a2,Vi a3,Vi a4,Vi a5,Vi a6,Vi a7,Vi a8,Vi a9,Vi a10,Vi a11,.slice p al.length cn,.slice q zl.length cm,Vi a14,Vi b0,Vi b1,Vi b2,Vi b3,Vi b4,Vi b5,Vi b6,Vi b7,Vi b8,Vi b9,Vi b10,Vi b11,.slice r bl.length dn,.slice s yl.length dm,Vi b14]):=Zab (range_sub (n:=30) HC0.out.range 0);have HB0:Hid (Below w.heap.size w (w.alloc (.cells #[Vi a0,Vi a1,Vi a2,Vi a3,Vi a4,Vi a5,Vi a6,Vi a7,Vi a8,Vi a9,Vi a10,Vi a11,.slice p al.length cn,.slice q zl.length cm,Vi a14,Vi b0,Vi b1,Vi b2,Vi b3,Vi b4,Vi b5,Vi b6,Vi b7,Vi b8,Vi b9,Vi b10,Vi b11,.slice r bl.length dn,.slice s yl.length dm,Vi b14,Vi c0,Vi c1] 29))):=Zab (Zaa _ _);have hia:=idx_a (Vi a0) (Vi a1) (Vi a2) (Vi a3) (Vi a4) (Vi a5) (Vi a6) (Vi a7) (Vi a8) (Vi a9) (Vi a10) (Vi a11) (.slice p al.length cn) (.slice q zl.length cm) (Vi a14) (Vi b0) (Vi b1) (Vi b2) (Vi b3) (Vi b4) (Vi b5) (Vi b6) (Vi b7) (Vi b8) (Vi b9) (Vi b10) (Vi b11) (.slice r bl.length dn) (.slice s yl.length dm) (Vi b14);have hib:=idx_b (Vi a0) (Vi a1) (Vi a2) (Vi a3) (Vi a4) (Vi a5) (Vi a6) (Vi a7) (Vi a8) (Vi a9) (Vi a10) (Vi a11) (.slice p al.length cn) (.slice q zl.length cm) (Vi a14) (Vi b0) (Vi b1) (Vi b2) (Vi b3) (Vi b4) (Vi b5) (Vi b6) (Vi b7) (Vi b8) (Vi b9) (Vi b10) (Vi b11) (.slice r bl.length dn) (.slice s yl.length dm) (Vi b14)
 have HCS:=Zab (closures_say a0 a1 a2 a3 a4 a5 a6 a7 a8 a9 a10 a11 a14 p q al zl cn cm b0 b1 b2 b3 b4 b5 b6 b7 b8 b9 b10 b11 b14 r s bl yl dn dm c0 c1);obtain⟨i0,hi,hz0,hz1,hz2⟩:=infoF';clear hg hla hlb
 go_enter func64,ntmps64
 go_wp2_with (first
  |(refine Lq 27 _ rfl ?_;refine wpList_load_mid rfl 27 (.tmp 6) rfl w.heap.size 0 rfl [Vi a0,Vi a1,Vi a2,Vi a3,Vi a4,Vi a5,Vi a6,Vi a7,Vi a8,Vi a9,Vi a10,Vi a11,.slice p al.length cn,.slice q zl.length cm,Vi a14,Vi b0,Vi b1,Vi b2,Vi b3,Vi b4,Vi b5,Vi b6,Vi b7,Vi b8,Vi b9,Vi b10,Vi b11,.slice r bl.length dn,.slice s yl.length dm,Vi b14] _ HR.out underlying27 rfl infoA30 ?_))
 refine wp_loop_rounds 3 ?_;rw[rounds_succ]
 go_wp2_with (first
  |(go_at_call 115;refine(Zje a0 a1 a2 a3 a4 a5 a6 a7 a8 a9 a10 a11 a14 p q al.length zl.length cn cm _).mono ?_;rintro e w1 ⟨B0,G0,rfl,hA,hL0,hb1⟩;have HA1:=Zab hA;have HL0:=Zab hL0;have HB1:=Zab (Zac (Zac HB0.out (Zaa _ _)) hb1);have HC1:=Zab ((HC0.out.later (Zaa _ _)).later hb1);clear hA hL0 hb1)
  |(at_builtin;refine wpList_append_own _ rfl _ _ 149 rfl w.heap.size 142 i0 Value.nilFunc 1 8 underlying149 hi hz0 hz1 hz2 rfl (by decide) _ _ _ rfl (nilf_own _ _) ⟨G0,0,none⟩ 6 6 [.func (.func 176) #[] #[.pointer (some (Ad B0 0))],.func (.func 178) #[] #[.pointer (some (Ad B0 0))],.func (.func 179) #[] #[.pointer (some (Ad B0 0))],.func (.func 181) #[] #[.pointer (some (Ad B0 0))],.func (.func 183) #[] #[.pointer (some (Ad B0 0))],.func (.func 185) #[] #[.pointer (some (Ad B0 0))]] rfl rfl HL0.out (func_one _ (by simp)) (by unfold maxLen;omega) (by omega) HB1.out.size ?_;intro v1 w2 ho1 hg1 hn1;have HO1:=Zab ho1;have HA2:=Zab (HA1.out.grown (nilf_own w.heap.size w1) hg1);have HC2:=Zab (HC1.out.grown (nilf_own w.heap.size w1) hg1);have HB2:=Zab (HB1.out.grown hg1 HB1.out.size (own_lt (nilf_own w.heap.size w1)));clear ho1 hg1 hn1))
 rw[rounds_succ]
 go_wp2_with (first
  |(go_at_call 115;refine(Zje b0 b1 b2 b3 b4 b5 b6 b7 b8 b9 b10 b11 b14 r s bl.length yl.length dn dm _).mono ?_;rintro e w3 ⟨B1,G1,rfl,hA,hL0,hb3⟩;have HD3:=Zab hA;have HL1:=Zab hL0;have HB3:=Zab (Zac (Zac HB2.out (Zaa _ _)) hb3);have HC3:=Zab ((HC2.out.later (Zaa _ _)).later hb3);have HA3:=Zab ((HA2.out.later (Zaa _ _)).later hb3);have HO3:=Zab (Zdu (Zdu HO1.out (Zaa _ _)) hb3);clear hA hL0 hb3)
  |(at_builtin;refine wpList_append_own _ rfl _ _ 149 rfl w.heap.size 142 i0 Value.nilFunc 1 8 underlying149 hi hz0 hz1 hz2 rfl (by decide) _ _ _ rfl (HO3.out) ⟨G1,0,none⟩ 6 6 [.func (.func 176) #[] #[.pointer (some (Ad B1 0))],.func (.func 178) #[] #[.pointer (some (Ad B1 0))],.func (.func 179) #[] #[.pointer (some (Ad B1 0))],.func (.func 181) #[] #[.pointer (some (Ad B1 0))],.func (.func 183) #[] #[.pointer (some (Ad B1 0))],.func (.func 185) #[] #[.pointer (some (Ad B1 0))]] rfl rfl HL1.out (func_one _ (by simp)) (by unfold maxLen;omega) (by omega) HB3.out.size ?_;intro v2 w4 ho4 hg4 hn4;have HO4:=Zab ho4;have HA4:=Zab (HA3.out.grown HO3.out hg4);have HD4:=Zab (HD3.out.grown HO3.out hg4);have HC4:=Zab (HC3.out.grown HO3.out hg4);have HB4:=Zab (HB3.out.grown hg4 HB3.out.size (own_lt HO3.out));clear ho4 hg4 hn4))
 rw[rounds_succ]
 go_wp2_with (first
  |(at_builtin;refine wpList_append_own _ rfl _ _ 149 rfl w.heap.size 142 i0 Value.nilFunc 1 8 underlying149 hi hz0 hz1 hz2 rfl (by decide) _ _ _ rfl (Zdu HO4.out (Zaa _ _)) ⟨w4.heap.size,0,none⟩ 1 1 [.func (.func 116) #[] #[.pointer (some (Ad w.heap.size 0))]] rfl rfl (cell_one_new _ _ _) (func_one _ (by simp)) (by unfold maxLen;omega) (by omega) (Zac HB4.out (Zaa _ _)).size ?_;intro v3 w6 ho6 hg6 hn6;have HA6:=Zab ((HA4.out.later (Zaa _ _)).grown (Zdu HO4.out (Zaa _ _)) hg6);have HD6:=Zab ((HD4.out.later (Zaa _ _)).grown (Zdu HO4.out (Zaa _ _)) hg6);have HC6:=Zab ((HC4.out.later (Zaa _ _)).grown (Zdu HO4.out (Zaa _ _)) hg6);have HB6:=Zab ((Zac HB4.out (Zaa _ _)).grown hg6 (Zac HB4.out (Zaa _ _)).size (own_lt HO4.out));obtain⟨g9,cap9,rfl,hcl9⟩:=own13 ho6;have HCL:=Zab hcl9;clear ho6 hg6 hn6 hcl9)
  |(go_at_call 57;refine Sb (Zhz (some (Ad g9 0)) 13 cap9 gCr (cbCr B0 B1 w.heap.size) (eCr a0 a1 a2 a3 a4 a5 a6 a7 a8 a9 a10 a11 a14 al zl b0 b1 b2 b3 b4 b5 b6 b7 b8 b9 b10 b11 b14 bl yl c0 c1) (by decide) w6 HCL.out (HG.out.later HB6.out) hent13 (HCS.out B0 B1 w.heap.size w w6 HB6.out HA6.out HD6.out HC6.out HLA.out HLB.out)) fun w7 hb7=>?_))
 go_ret;exact⟨rfl,Zac HB6.out hb7⟩
theorem Blk.grown{t e:TypeId}{u u':World}{B base k:Nat}{v:Value}{xs cs:List Value}(h:Blk t u B cs)(ho:u.ownsRow base e 1 v k xs)(hne:t≠e)(hg:u.grownBy u' v.ownBlock):Blk t u' B cs:=by
 refine(hg.block B h.lt ?_).trans h
 rcases ownsRow_ne_a ho h (fun cur e=>absurd (Obj.cells.inj e).2.1 hne) with e|e
 · rw[e];simp
 · exact fun e'=>e e'.symm
theorem own_new{u:World}{e:TypeId}{base:Nat}(xs:List Value)(hb:base≤u.heap.size)(hm:xs.length≤1000):(u.alloc (.cells xs.toArray e)).ownsRow base e 1 (.slice (some (Ad u.heap.size 0)) xs.length xs.length) xs.length xs:=
 ⟨by omega,.inr ⟨u.heap.size,xs.length,xs.toArray,rfl,hb,World.alloc_heap_new u _,Nat.le_refl _,by unfold maxLen;omega,by simp,by simp⟩⟩
theorem infoB21:(prog.info? 34).map (·.size)=some 21:=by kernel_rfl
def bk3(S:FS):List Value:=bkL (S.bk 0)++bkL (S.bk 1)++bkL (S.bk 2)
theorem st_banks(S:FS):((stL S).drop 0).take 21=bk3 S:=rfl
theorem bkidx0(S:FS)(w:World):(Instr.index 34 (.agg (bk3 S).toArray) (Vi 0)).run prog w=.ok (.agg (bkL (S.bk 0)).toArray) w:=by kernel_rfl
theorem bkidx1(S:FS)(w:World):(Instr.index 34 (.agg (bk3 S).toArray) (Vi 1)).run prog w=.ok (.agg (bkL (S.bk 1)).toArray) w:=by kernel_rfl
theorem bkidx2(S:FS)(w:World):(Instr.index 34 (.agg (bk3 S).toArray) (Vi 2)).run prog w=.ok (.agg (bkL (S.bk 2)).toArray) w:=by kernel_rfl
theorem cr_axes(C:CR):((crL C).drop 0).take 30=axL C 0++axL C 1:=rfl
theorem f1new(w1:World)(X:Value)(t:TypeId):∀j u,[X][j]?=some u→(w1.alloc (.cells #[X] t)).cell? ((⟨w1.heap.size,0,none⟩:Addr).add j)=some u:=by
 intro j u hu
 cases j with
 |zero=>simp at hu;subst hu;simp[go_sem,Addr.add]
 |succ j=>simp at hu
theorem f2new(w1:World)(X Y:Value)(t:TypeId):∀j u,[X,Y][j]?=some u→(w1.alloc (.cells #[X,Y] t)).cell? ((⟨w1.heap.size,0,none⟩:Addr).add j)=some u:=by
 intro j u hu
 match j with
 |0=>simp at hu;subst hu;simp[go_sem,Addr.add]
 |1=>simp at hu;subst hu;simp[go_sem,Addr.add]
 |j+2=>simp at hu
theorem Zic{ops:Array Oper}{rest:List Oper}{op:Oper}{a:Act}{w:World}{Q:Exit→Act→World→Prop}{c c':Array Value}(x y:Operand)(hgd:op.guard=none)(ho:op.op=.store 33 x y)
 (hx:a.eval x=.pointer (some (Ad w.heap.size 0))) (hy:a.eval y=.agg c') (hs:c'.size=7) (hc:c.size=c'.size) (h1:c'.all (·.oneCell')=true)
 (h:wpList prog ops Q rest (a.put op.dst undef) (w.alloc (.cells c' 33))):wpList prog ops Q (op::rest) a (w.alloc (.cells c 33)):=
 wpList_plain hgd fun _ hK=>by
  unfold Oper.wp execOp
  simp only[ho,hx,hy,Sem.run_bind,Sem.run_pure,Result.andThen_ok,run_storeAt_new w 33 c c' (by rw[Zej,hs]) hc h1];exact hK _ _ h
def gSt(k:Nat):Nat:=[118,120,120,120,122,124,122,124].getD k 0
def cbSt(Bs:Nat)(b x y:Nat→Nat)(k:Nat):Array Value:=[#[.pointer (some (Ad Bs 0))],#[.pointer (some (Ad (b 0) 0))],#[.pointer (some (Ad (b 1) 0))],#[.pointer (some (Ad (b 2) 0))],#[.pointer (some (Ad (x 0) 0)),.pointer (some (Ad Bs 0)),.pointer (some (Ad (y 0) 0))],#[.pointer (some (Ad (x 0) 0)),.pointer (some (Ad Bs 0)),.pointer (some (Ad (y 0) 0))],#[.pointer (some (Ad (x 1) 0)),.pointer (some (Ad Bs 0)),.pointer (some (Ad (y 1) 0))],#[.pointer (some (Ad (x 1) 0)),.pointer (some (Ad Bs 0)),.pointer (some (Ad (y 1) 0))]].getD k #[]
def stV(Bs:Nat)(b x y:Nat→Nat):List Value:=(List.range 8).map fun k=>.func (.func (gSt k)) #[] (cbSt Bs b x y k)
theorem clos8{u:World}{base g cap:Nat}{e:TypeId}(Bs:Nat)(b x y:Nat→Nat)(h:u.ownsRow base e 1 (.slice (some (Ad g 0)) 8 cap) 8 (stV Bs b x y)):Clos u (some (Ad g 0)) 8 gSt (cbSt Bs b x y):=
 .inr ⟨g,0,rfl,fun k hk=>by
  rw[Nat.zero_add,h.cellAt k (by omega)]
  simp[stV,hk]⟩
structure SkH (u:World) (C:CR) (S:FS) (Bs:Nat) (b x y:Nat→Nat):Prop where
 st:Blk 41 u Bs (stL S)
 bk:∀j,j<3→Blk 33 u (b j) (bkL (S.bk j))
 ax:∀i,i<2→Blk 26 u (x i) (axL C i)
 ix:∀i,i<2→Blk 3 u (y i) [Vi (i:Int)]
theorem SkH.later{u u':World}{C:CR}{S:FS}{Bs:Nat}{b x y:Nat→Nat}(h:SkH u C S Bs b x y)(hb:Below u.heap.size u u'):SkH u' C S Bs b x y:=⟨h.st.later hb,fun j hj=>(h.bk j hj).later hb,fun i hi=>(h.ax i hi).later hb,fun i hi=>(h.ix i hi).later hb⟩
theorem stateChecks_ok(C:CR)(S:FS)(w:World):
 Calls prog 65 #[.agg (crL C).toArray,.agg (stL S).toArray] w fun e w'=>∃g cap Bs b x y,e=.returned (.slice (some (Ad g 0)) 8 cap)∧Clos w' (some (Ad g 0)) 8 gSt (cbSt Bs b x y)∧SkH w' C S Bs b x y∧Below w.heap.size w w':=by
 have hk0:=bkidx0 S;have hk1:=bkidx1 S;have hk2:=bkidx2 S;have hx0:=axidx0 C;have hx1:=axidx1 C;have HS:Hid (Blk 41 ((w.alloc (.cells (crL C).toArray 29)).alloc (.cells (stL S).toArray 41)) (w.heap.size+1) (stL S)):=Zab (by have:=Blk.new (w.alloc (.cells (crL C).toArray 29)) 41 (stL S);rw[World.size_alloc] at this;exact this);have HC:=Zab ((Blk.new w 29 (crL C)).later (Zaa _ (.cells (stL S).toArray 41)));have HB:=Zab (Zac (Zaa w (.cells (crL C).toArray 29)) (Zaa _ (.cells (stL S).toArray 41)));have HO:Hid ((((w.alloc (.cells (crL C).toArray 29)).alloc (.cells (stL S).toArray 41)).alloc (.cells #[.func (.func 118) #[] #[.pointer (some (Ad (w.heap.size+1) 0))]] 142)).ownsRow w.heap.size 142 1 (.slice (some (Ad (w.heap.size+1+1) 0)) 1 1) 1 [.func (.func 118) #[] #[.pointer (some (Ad (w.heap.size+1) 0))]]):=Zab (by have:=own_new (e:=142) [.func (.func 118) #[] #[.pointer (some (Ad (w.heap.size+1) 0))]] HB.out.size (by show 1≤1000;omega);rw[World.size_alloc,World.size_alloc] at this;exact this);have HS:=Zab (HS.out.later (Zaa _ (.cells #[.func (.func 118) #[] #[.pointer (some (Ad (w.heap.size+1) 0))]] 142)));have HC:=Zab (HC.out.later (Zaa _ (.cells #[.func (.func 118) #[] #[.pointer (some (Ad (w.heap.size+1) 0))]] 142)));have HB:=Zab (Zac HB.out (Zaa _ (.cells #[.func (.func 118) #[] #[.pointer (some (Ad (w.heap.size+1) 0))]] 142)));obtain⟨i0,hi,hz0,hz1,hz2⟩:=infoF'
 go_enter func65,ntmps65
 go_upto_region 2 with fail;generalize ((w.alloc (.cells (crL C).toArray 29)).alloc (.cells (stL S).toArray 41)).alloc (.cells #[.func (.func 118) #[] #[.pointer (some (Ad (w.heap.size+1) 0))]] 142)=v0 at *;generalize w.heap.size+1+1=Bg at *;generalize w.heap.size+1=Bs at *;have HX:=Zab (HS.out.sub 0 21);rw[st_banks] at HX
 go_upto_region 3 with(refine Lq 34 _ rfl ?_;refine wpList_load_mid rfl 34 (.tmp 12) rfl Bs 0 rfl (bk3 S) _ HX.out underlying34 rfl infoB21 ?_);clear HX;refine wp_loop_rounds 4 ?_;rw[rounds_succ];have HK0:Hid (Blk 33 (v0.alloc (.cells (bkL (S.bk 0)).toArray 33)) v0.heap.size (bkL (S.bk 0))):=Zab (Blk.new v0 _ _);have HS:=Zab (HS.out.later (Zaa v0 (.cells (bkL (S.bk 0)).toArray 33)));have HC:=Zab (HC.out.later (Zaa v0 (.cells (bkL (S.bk 0)).toArray 33)));have HO:=Zab (HO.out.alloc (.cells (bkL (S.bk 0)).toArray 33));have HB:=Zab (Zac HB.out (Zaa v0 (.cells (bkL (S.bk 0)).toArray 33)))
 go_upto_region 5 with(refine Sq 33 _ _ rfl ?_;refine Zic (c':=(bkL (S.bk 0)).toArray) (.tmp 7) (.tmp 16) rfl rfl rfl rfl rfl rfl (Zaq _ rfl) ?_);generalize v0.alloc (.cells (bkL (S.bk 0)).toArray 33)=x0 at *;generalize v0.heap.size=b0 at HK0⊢
 go_wp2_with (at_builtin;refine wpList_append_lies _ rfl _ _ 149 rfl w.heap.size 142 i0 Value.nilFunc 1 8 underlying149 hi hz0 hz1 hz2 rfl (by decide) _ _ _ rfl (HO.out.alloc _) ⟨x0.heap.size,0,none⟩ 1 1 [.func (.func 120) #[] #[.pointer (some (Ad b0 0))]] rfl rfl (f1new x0 _ _) (fun x hx=>by simp at hx;subst hx;rfl) (by omega) (by unfold maxLen;omega) (by omega) (Zac HB.out (Zaa _ _)).size _ rfl ?_;intro g0 c0 v1 hown hgrow hat hlt;have HS:=Zab ((HS.out.later (Zaa _ _)).grown (HO.out.alloc _) (by decide) hgrow);have HC:=Zab ((HC.out.later (Zaa _ _)).grown (HO.out.alloc _) (by decide) hgrow);have HK0:=Zab ((HK0.out.later (Zaa _ _)).grown (HO.out.alloc _) (by decide) hgrow);have HB:=Zab ((Zac HB.out (Zaa _ _)).grown hgrow (Zac HB.out (Zaa _ _)).size (fun q hq=>(HO.out.lt q hq).1));have HO:=Zab hown;clear hown hgrow hat hlt);rw[rounds_succ];have HK1:Hid (Blk 33 (v1.alloc (.cells (bkL (S.bk 1)).toArray 33)) v1.heap.size (bkL (S.bk 1))):=Zab (Blk.new v1 _ _);have HS:=Zab (HS.out.later (Zaa v1 (.cells (bkL (S.bk 1)).toArray 33)));have HC:=Zab (HC.out.later (Zaa v1 (.cells (bkL (S.bk 1)).toArray 33)));have HK0:=Zab (HK0.out.later (Zaa v1 (.cells (bkL (S.bk 1)).toArray 33)));have HO:=Zab (HO.out.alloc (.cells (bkL (S.bk 1)).toArray 33));have HB:=Zab (Zac HB.out (Zaa v1 (.cells (bkL (S.bk 1)).toArray 33)))
 go_upto_region 5 with(refine Sq 33 _ _ rfl ?_;refine Zic (c':=(bkL (S.bk 1)).toArray) (.tmp 7) (.tmp 16) rfl rfl rfl rfl rfl rfl (Zaq _ rfl) ?_);generalize v1.alloc (.cells (bkL (S.bk 1)).toArray 33)=x1 at *;generalize v1.heap.size=b1 at HK1⊢
 go_wp2_with (at_builtin;refine wpList_append_lies _ rfl _ _ 149 rfl w.heap.size 142 i0 Value.nilFunc 1 8 underlying149 hi hz0 hz1 hz2 rfl (by decide) _ _ _ rfl (HO.out.alloc _) ⟨x1.heap.size,0,none⟩ 1 1 [.func (.func 120) #[] #[.pointer (some (Ad b1 0))]] rfl rfl (f1new x1 _ _) (fun x hx=>by simp at hx;subst hx;rfl) (by omega) (by unfold maxLen;omega) (by omega) (Zac HB.out (Zaa _ _)).size _ rfl ?_;intro g1 c1 v2 hown hgrow hat hlt;have HS:=Zab ((HS.out.later (Zaa _ _)).grown (HO.out.alloc _) (by decide) hgrow);have HC:=Zab ((HC.out.later (Zaa _ _)).grown (HO.out.alloc _) (by decide) hgrow);have HK0:=Zab ((HK0.out.later (Zaa _ _)).grown (HO.out.alloc _) (by decide) hgrow);have HK1:=Zab ((HK1.out.later (Zaa _ _)).grown (HO.out.alloc _) (by decide) hgrow);have HB:=Zab ((Zac HB.out (Zaa _ _)).grown hgrow (Zac HB.out (Zaa _ _)).size (fun q hq=>(HO.out.lt q hq).1));have HO:=Zab hown;clear hown hgrow hat hlt);rw[rounds_succ];have HK2:Hid (Blk 33 (v2.alloc (.cells (bkL (S.bk 2)).toArray 33)) v2.heap.size (bkL (S.bk 2))):=Zab (Blk.new v2 _ _);have HS:=Zab (HS.out.later (Zaa v2 (.cells (bkL (S.bk 2)).toArray 33)));have HC:=Zab (HC.out.later (Zaa v2 (.cells (bkL (S.bk 2)).toArray 33)));have HK0:=Zab (HK0.out.later (Zaa v2 (.cells (bkL (S.bk 2)).toArray 33)));have HK1:=Zab (HK1.out.later (Zaa v2 (.cells (bkL (S.bk 2)).toArray 33)));have HO:=Zab (HO.out.alloc (.cells (bkL (S.bk 2)).toArray 33));have HB:=Zab (Zac HB.out (Zaa v2 (.cells (bkL (S.bk 2)).toArray 33)))
 go_upto_region 5 with(refine Sq 33 _ _ rfl ?_;refine Zic (c':=(bkL (S.bk 2)).toArray) (.tmp 7) (.tmp 16) rfl rfl rfl rfl rfl rfl (Zaq _ rfl) ?_);generalize v2.alloc (.cells (bkL (S.bk 2)).toArray 33)=x2 at *;generalize v2.heap.size=b2 at HK2⊢
 go_wp2_with (at_builtin;refine wpList_append_lies _ rfl _ _ 149 rfl w.heap.size 142 i0 Value.nilFunc 1 8 underlying149 hi hz0 hz1 hz2 rfl (by decide) _ _ _ rfl (HO.out.alloc _) ⟨x2.heap.size,0,none⟩ 1 1 [.func (.func 120) #[] #[.pointer (some (Ad b2 0))]] rfl rfl (f1new x2 _ _) (fun x hx=>by simp at hx;subst hx;rfl) (by omega) (by unfold maxLen;omega) (by omega) (Zac HB.out (Zaa _ _)).size _ rfl ?_;intro g2 c2 v3 hown hgrow hat hlt;have HS:=Zab ((HS.out.later (Zaa _ _)).grown (HO.out.alloc _) (by decide) hgrow);have HC:=Zab ((HC.out.later (Zaa _ _)).grown (HO.out.alloc _) (by decide) hgrow);have HK0:=Zab ((HK0.out.later (Zaa _ _)).grown (HO.out.alloc _) (by decide) hgrow);have HK1:=Zab ((HK1.out.later (Zaa _ _)).grown (HO.out.alloc _) (by decide) hgrow);have HK2:=Zab ((HK2.out.later (Zaa _ _)).grown (HO.out.alloc _) (by decide) hgrow);have HB:=Zab ((Zac HB.out (Zaa _ _)).grown hgrow (Zac HB.out (Zaa _ _)).size (fun q hq=>(HO.out.lt q hq).1));have HO:=Zab hown;clear hown hgrow hat hlt);rw[rounds_succ];have HX:=Zab (HC.out.sub 0 30);rw[cr_axes] at HX
 go_upto_region 8 with(refine Lq 27 _ rfl ?_;refine wpList_load_mid rfl 27 (.tmp 22) rfl w.heap.size 0 rfl (axL C 0++axL C 1) _ HX.out underlying27 rfl infoA30 ?_);clear HX;refine wp_loop_rounds 3 ?_;rw[rounds_succ];have HA0:Hid (Blk 26 ((v3.alloc (.cells #[Vi 0] 3)).alloc (.cells (axL C 0).toArray 26)) (v3.heap.size+1) (axL C 0)):=Zab (by have:=Blk.new (v3.alloc (.cells #[Vi 0] 3)) 26 (axL C 0);rw[World.size_alloc] at this;exact this);have HI0:Hid (Blk 3 ((v3.alloc (.cells #[Vi 0] 3)).alloc (.cells (axL C 0).toArray 26)) v3.heap.size [Vi 0]):=Zab ((Blk.new v3 _ _).later (Zaa _ _));have HS:=Zab (HS.out.later (Zac (Zaa v3 (.cells #[Vi 0] 3)) (Zaa _ (.cells (axL C 0).toArray 26))));have HC:=Zab (HC.out.later (Zac (Zaa v3 (.cells #[Vi 0] 3)) (Zaa _ (.cells (axL C 0).toArray 26))));have HK0:=Zab (HK0.out.later (Zac (Zaa v3 (.cells #[Vi 0] 3)) (Zaa _ (.cells (axL C 0).toArray 26))));have HK1:=Zab (HK1.out.later (Zac (Zaa v3 (.cells #[Vi 0] 3)) (Zaa _ (.cells (axL C 0).toArray 26))));have HK2:=Zab (HK2.out.later (Zac (Zaa v3 (.cells #[Vi 0] 3)) (Zaa _ (.cells (axL C 0).toArray 26))));have HO:=Zab (Zdu HO.out (Zac (Zaa v3 (.cells #[Vi 0] 3)) (Zaa _ (.cells (axL C 0).toArray 26))));have HB:=Zab (Zac HB.out (Zac (Zaa v3 (.cells #[Vi 0] 3)) (Zaa _ (.cells (axL C 0).toArray 26))))
 go_upto_region 10 with(refine Sq 26 _ _ rfl ?_;refine Zct (c':=(axL C 0).toArray) (.tmp 9) (.tmp 27) rfl rfl (by rw[World.size_alloc];rfl) rfl rfl rfl (Zaq _ rfl) ?_);generalize ((v3.alloc (.cells #[Vi 0] 3)).alloc (.cells (axL C 0).toArray 26))=y0 at *;generalize v3.heap.size+1=a0 at HA0⊢;generalize v3.heap.size=q0 at HI0⊢
 go_wp2_with (at_builtin;refine wpList_append_lies _ rfl _ _ 149 rfl w.heap.size 142 i0 Value.nilFunc 1 8 underlying149 hi hz0 hz1 hz2 rfl (by decide) _ _ _ rfl (HO.out.alloc _) ⟨y0.heap.size,0,none⟩ 2 2 [.func (.func 122) #[] #[.pointer (some (Ad a0 0)),.pointer (some (Ad Bs 0)),.pointer (some (Ad q0 0))],.func (.func 124) #[] #[.pointer (some (Ad a0 0)),.pointer (some (Ad Bs 0)),.pointer (some (Ad q0 0))]] rfl rfl (f2new y0 _ _ _) (fun x hx=>by simp at hx;rcases hx with rfl|rfl<;>rfl) (by omega) (by unfold maxLen;omega) (by omega) (Zac HB.out (Zaa _ _)).size _ rfl ?_;intro g3 c3 v4 hown hgrow hat hlt;have HS:=Zab ((HS.out.later (Zaa _ _)).grown (HO.out.alloc _) (by decide) hgrow);have HC:=Zab ((HC.out.later (Zaa _ _)).grown (HO.out.alloc _) (by decide) hgrow);have HK0:=Zab ((HK0.out.later (Zaa _ _)).grown (HO.out.alloc _) (by decide) hgrow);have HK1:=Zab ((HK1.out.later (Zaa _ _)).grown (HO.out.alloc _) (by decide) hgrow);have HK2:=Zab ((HK2.out.later (Zaa _ _)).grown (HO.out.alloc _) (by decide) hgrow);have HA0:=Zab ((HA0.out.later (Zaa _ _)).grown (HO.out.alloc _) (by decide) hgrow);have HI0:=Zab ((HI0.out.later (Zaa _ _)).grown (HO.out.alloc _) (by decide) hgrow);have HB:=Zab ((Zac HB.out (Zaa _ _)).grown hgrow (Zac HB.out (Zaa _ _)).size (fun q hq=>(HO.out.lt q hq).1));have HO:=Zab hown;clear hown hgrow hat hlt);rw[rounds_succ];have HA1:Hid (Blk 26 ((v4.alloc (.cells #[Vi 1] 3)).alloc (.cells (axL C 1).toArray 26)) (v4.heap.size+1) (axL C 1)):=Zab (by have:=Blk.new (v4.alloc (.cells #[Vi 1] 3)) 26 (axL C 1);rw[World.size_alloc] at this;exact this);have HI1:Hid (Blk 3 ((v4.alloc (.cells #[Vi 1] 3)).alloc (.cells (axL C 1).toArray 26)) v4.heap.size [Vi 1]):=Zab ((Blk.new v4 _ _).later (Zaa _ _))
 have HS:=Zab (HS.out.later (Zac (Zaa v4 (.cells #[Vi 1] 3)) (Zaa _ (.cells (axL C 1).toArray 26))));have HC:=Zab (HC.out.later (Zac (Zaa v4 (.cells #[Vi 1] 3)) (Zaa _ (.cells (axL C 1).toArray 26))));have HK0:=Zab (HK0.out.later (Zac (Zaa v4 (.cells #[Vi 1] 3)) (Zaa _ (.cells (axL C 1).toArray 26))));have HK1:=Zab (HK1.out.later (Zac (Zaa v4 (.cells #[Vi 1] 3)) (Zaa _ (.cells (axL C 1).toArray 26))));have HK2:=Zab (HK2.out.later (Zac (Zaa v4 (.cells #[Vi 1] 3)) (Zaa _ (.cells (axL C 1).toArray 26))));have HA0:=Zab (HA0.out.later (Zac (Zaa v4 (.cells #[Vi 1] 3)) (Zaa _ (.cells (axL C 1).toArray 26))));have HI0:=Zab (HI0.out.later (Zac (Zaa v4 (.cells #[Vi 1] 3)) (Zaa _ (.cells (axL C 1).toArray 26))));have HO:=Zab (Zdu HO.out (Zac (Zaa v4 (.cells #[Vi 1] 3)) (Zaa _ (.cells (axL C 1).toArray 26))));have HB:=Zab (Zac HB.out (Zac (Zaa v4 (.cells #[Vi 1] 3)) (Zaa _ (.cells (axL C 1).toArray 26))))
 go_upto_region 10 with(refine Sq 26 _ _ rfl ?_;refine Zct (c':=(axL C 1).toArray) (.tmp 9) (.tmp 27) rfl rfl (by rw[World.size_alloc];rfl) rfl rfl rfl (Zaq _ rfl) ?_);generalize ((v4.alloc (.cells #[Vi 1] 3)).alloc (.cells (axL C 1).toArray 26))=y1 at *;generalize v4.heap.size+1=a1 at HA1⊢;generalize v4.heap.size=q1 at HI1⊢
 go_wp2_with (at_builtin;refine wpList_append_lies _ rfl _ _ 149 rfl w.heap.size 142 i0 Value.nilFunc 1 8 underlying149 hi hz0 hz1 hz2 rfl (by decide) _ _ _ rfl (HO.out.alloc _) ⟨y1.heap.size,0,none⟩ 2 2 [.func (.func 122) #[] #[.pointer (some (Ad a1 0)),.pointer (some (Ad Bs 0)),.pointer (some (Ad q1 0))],.func (.func 124) #[] #[.pointer (some (Ad a1 0)),.pointer (some (Ad Bs 0)),.pointer (some (Ad q1 0))]] rfl rfl (f2new y1 _ _ _) (fun x hx=>by simp at hx;rcases hx with rfl|rfl<;>rfl) (by omega) (by unfold maxLen;omega) (by omega) (Zac HB.out (Zaa _ _)).size _ rfl ?_;intro g4 c4 v5 hown hgrow hat hlt;have HS:=Zab ((HS.out.later (Zaa _ _)).grown (HO.out.alloc _) (by decide) hgrow);have HC:=Zab ((HC.out.later (Zaa _ _)).grown (HO.out.alloc _) (by decide) hgrow);have HK0:=Zab ((HK0.out.later (Zaa _ _)).grown (HO.out.alloc _) (by decide) hgrow);have HK1:=Zab ((HK1.out.later (Zaa _ _)).grown (HO.out.alloc _) (by decide) hgrow);have HK2:=Zab ((HK2.out.later (Zaa _ _)).grown (HO.out.alloc _) (by decide) hgrow);have HA0:=Zab ((HA0.out.later (Zaa _ _)).grown (HO.out.alloc _) (by decide) hgrow);have HI0:=Zab ((HI0.out.later (Zaa _ _)).grown (HO.out.alloc _) (by decide) hgrow);have HA1:=Zab ((HA1.out.later (Zaa _ _)).grown (HO.out.alloc _) (by decide) hgrow);have HI1:=Zab ((HI1.out.later (Zaa _ _)).grown (HO.out.alloc _) (by decide) hgrow);have HB:=Zab ((Zac HB.out (Zaa _ _)).grown hgrow (Zac HB.out (Zaa _ _)).size (fun q hq=>(HO.out.lt q hq).1));have HO:=Zab hown;clear hown hgrow hat hlt);rw[rounds_succ];go_wp2_with fail;go_ret;refine⟨g4,c4,Bs,fun j=>if j=0 then b0 else if j=1 then b1 else b2,fun j=>if j=0 then a0 else a1,fun j=>if j=0 then q0 else q1,rfl,clos8 _ _ _ _ HO.out,⟨HS.out,fun j hj=>?_,fun j hj=>?_,fun j hj=>?_⟩,HB.out⟩
 · rcases(show j=0∨j=1∨j=2 by omega) with rfl|rfl|rfl
   · exact HK0.out
   · exact HK1.out
   · exact HK2.out
 · rcases(show j=0∨j=1 by omega) with rfl|rfl
   · exact HA0.out
   · exact HA1.out
 · rcases(show j=0∨j=1 by omega) with rfl|rfl
   · exact HI0.out
   · exact HI1.out
end Go.Proofs.YtnfdfiholcelaaaGreatDoor
