import Derived.Maps.AppendAt
import Derived.Test.YtnfdfiholcelaaaGreatDoorJp27
set_option maxRecDepth 100000
set_option maxHeartbeats 20000000
namespace Go.Proofs.YtnfdfiholcelaaaGreatDoor
open Go.RowKit Plain Tryz
variable {B Bs V base i j k n size:Nat}{C:CR}{Q:Exit→Act→World→Prop}{S:FS}{a:Option Addr}{c c':Array Value}{cs xs:List Value}{e:TypeId}{op:Oper}{ops:Array Oper}{rest:List Oper}{sv:Nat→List Sv}{u u' w:World}{v:Value}
theorem grE_noise{L H N P M R:Int}(h:grE L H N P M R=0):0≤N∧N≤1000:=by
 have:grB L H N P M R=true:=by
  unfold grE at h
  split at h
  · assumption
  · omega
 have g:=grB_true this;exact⟨g.n0,g.n1⟩
def eAx(a0 a1 a2 a3 a4 a5 a6 a7 a8 a9 a10 a11 a14:Int)(al zl:List Int):Nat→Int
 |0=>rgE a4 a3
 |1=>Z7 a8 a9
 |2=>arE a5 a6 a7 a10
 |3=>grE a0 a1 a2 (a3+a7) ((a4-1)*a5) ((a4-1)*a6)
 |4=>ruE a0 a1 a11 a14 ((a4-1)*a5) al zl
 |_=>fmE a8 a2 a0 a1
def eCr(a0 a1 a2 a3 a4 a5 a6 a7 a8 a9 a10 a11 a14:Int)(al zl:List Int)(b0 b1 b2 b3 b4 b5 b6 b7 b8 b9 b10 b11 b14:Int)(bl yl:List Int)(c0 c1:Int)(k:Nat):Int:=if k<6 then eAx a0 a1 a2 a3 a4 a5 a6 a7 a8 a9 a10 a11 a14 al zl k else if k<12 then eAx b0 b1 b2 b3 b4 b5 b6 b7 b8 b9 b10 b11 b14 bl yl (k-6) else Z7 c0 c1
def gCr(k:Nat):Nat:=if k<12 then[176,178,179,181,183,185].getD (k%6) 0 else 116
def cbCr(B0 B1 B:Nat)(k:Nat):Array Value:=if k<6 then#[.pointer (some (Ad B0 0))] else if k<12 then#[.pointer (some (Ad B1 0))] else#[.pointer (some (Ad B 0))]
def AxH(u:World)(B:Nat)(a0 a1 a2 a3 a4 a5 a6 a7 a8 a9 a10 a11 a14:Int)(p q:Option Addr)(n m cn cm:Nat):Prop:=u.heap[B]?=some (.cells (Qah a0 a1 a2 a3 a4 a5 a6 a7 a8 a9 a10 a11 a14 p q n cn m cm) 26 (0,0))
section
variable {u u' : World} {B : Nat} {a0 a1 a2 a3 a4 a5 a6 a7 a8 a9 a10 a11 a14 : Int} {p q : Option Addr} {n m cn cm : Nat}
theorem AxH.axb(h:AxH u B a0 a1 a2 a3 a4 a5 a6 a7 a8 a9 a10 a11 a14 p q n m cn cm):AxB u B a0 a1 a2 a3 a4 a5 a6 a7 a8 a9 a10 a11 a14 p q n m cn cm:=by
 unfold AxH at h
 refine⟨?_,?_,?_,?_,?_,?_,?_,?_,?_,?_,?_,?_,?_,?_,?_⟩<;>simp[World.cell?,h]
theorem AxH.lt(h:AxH u B a0 a1 a2 a3 a4 a5 a6 a7 a8 a9 a10 a11 a14 p q n m cn cm):B<u.heap.size:=(Array.getElem?_eq_some_iff.1 h).1
theorem AxH.later(h:AxH u B a0 a1 a2 a3 a4 a5 a6 a7 a8 a9 a10 a11 a14 p q n m cn cm)(hb:Bw u u'):AxH u' B a0 a1 a2 a3 a4 a5 a6 a7 a8 a9 a10 a11 a14 p q n m cn cm:=(hb.block B h.lt).trans h
theorem AxH.grown(h:AxH u B a0 a1 a2 a3 a4 a5 a6 a7 a8 a9 a10 a11 a14 p q n m cn cm)(ho:u.ownsRow base 142 1 v k xs)(hg:u.grownBy u' v.ownBlock):AxH u' B a0 a1 a2 a3 a4 a5 a6 a7 a8 a9 a10 a11 a14 p q n m cn cm:=by
 refine(hg.block B h.lt ?_).trans h
 rcases ownsRow_ne_a ho h (fun cur e=>absurd (Obj.cells.inj e).2.1 (by decide)) with e|e
 · rw[e];simp
 · exact fun e'=>e e'.symm
end
def CrH(u:World)(B:Nat)(cs:List Value):Prop:=u.heap[B]?=some (.cells cs.toArray 29 (0,0))
theorem CrH.lt(h:CrH u B cs):B<u.heap.size:=(Array.getElem?_eq_some_iff.1 h).1
theorem CrH.later(h:CrH u B cs)(hb:Bw u u'):CrH u' B cs:=(hb.block B h.lt).trans h
theorem CrH.range(h:CrH u B cs):u.rangeAt B 0 cs:=fun j v hv=>by
 unfold CrH at h
 simp only[World.cell?,h,Nat.zero_add];simp only[Option.isSome_none,Bool.false_eq_true,if_false]
 simpa using hv
theorem CrH.grown(h:CrH u B cs)(ho:u.ownsRow base 142 1 v k xs)(hg:u.grownBy u' v.ownBlock):CrH u' B cs:=by
 refine(hg.block B h.lt ?_).trans h
 rcases ownsRow_ne_a ho h (fun cur e=>absurd (Obj.cells.inj e).2.1 (by decide)) with e|e
 · rw[e];simp
 · exact fun e'=>e e'.symm
theorem func_one(l:List Value)(h:∀v∈l,∃g cb,v=.func (.func g) #[] cb):∀v∈l,v.oneCell'=true:=fun v hv=>by obtain⟨g,cb,rfl⟩:=h v hv;rfl
theorem Zjk(a0 a1 a2 a3 a4 a5 a6 a7 a8 a9 a10 a11 a14:Int)(p q:Option Addr)(n m cn cm:Nat)(w:World):Calls prog 115 #[.agg (Qah a0 a1 a2 a3 a4 a5 a6 a7 a8 a9 a10 a11 a14 p q n cn m cm)] w fun e w'=>∃B0 G,e=.returned (.slice (some (Ad G 0)) 6 6)∧AxH w' B0 a0 a1 a2 a3 a4 a5 a6 a7 a8 a9 a10 a11 a14 p q n m cn cm∧(∀j v,([.func (.func 176) #[] #[.pointer (some (Ad B0 0))],.func (.func 178) #[] #[.pointer (some (Ad B0 0))],.func (.func 179) #[] #[.pointer (some (Ad B0 0))],.func (.func 181) #[] #[.pointer (some (Ad B0 0))],.func (.func 183) #[] #[.pointer (some (Ad B0 0))],.func (.func 185) #[] #[.pointer (some (Ad B0 0))]]:List Value)[j]?=some v→w'.cell? ((⟨G,0,none⟩:Addr).add j)=some v)∧Bw w w':=by
 refine(axisChecks_any a0 a1 a2 a3 a4 a5 a6 a7 a8 a9 a10 a11 a14 p q n m cn cm w).mono ?_;rintro e w' ⟨rfl,rfl⟩;refine⟨w.heap.size,w.heap.size+1,rfl,?_,?_,Zc (Zb _ _) (Zb _ _)⟩
 · exact(Below.heap_alloc _ _ _ (by simp)).trans (World.alloc_heap_new w _)
 · intro j v hj;rw[Addr.add_lit];have hh:=World.alloc_heap_new (w.alloc (.cells (Qah a0 a1 a2 a3 a4 a5 a6 a7 a8 a9 a10 a11 a14 p q n cn m cm) 26)) (.cells #[.func (.func 176) #[] #[.pointer (some (Ad w.heap.size 0))],.func (.func 178) #[] #[.pointer (some (Ad w.heap.size 0))],.func (.func 179) #[] #[.pointer (some (Ad w.heap.size 0))],.func (.func 181) #[] #[.pointer (some (Ad w.heap.size 0))],.func (.func 183) #[] #[.pointer (some (Ad w.heap.size 0))],.func (.func 185) #[] #[.pointer (some (Ad w.heap.size 0))]] 142);rw[World.size_alloc] at hh
   show World.cell? _ _=_
   simp only[World.cell?,hh,Nat.zero_add];simp only[Option.isSome_none,Bool.false_eq_true,if_false]
   simpa using hj
theorem nilf_own(Bs:Nat)(w:World):w.ownsRow Bs 142 1 (.slice none 0 0) 0 []:=⟨rfl,.inl ⟨rfl,rfl⟩⟩
theorem infoF:(prog.info? 142).map (fun i=>(i.zero,i.size,i.bytes))=some (some Value.nilFunc,1,8):=by kernel_rfl
theorem idx_a(y0 y1 y2 y3 y4 y5 y6 y7 y8 y9 y10 y11 y12 y13 y14 y15 y16 y17 y18 y19 y20 y21 y22 y23 y24 y25 y26 y27 y28 y29:Value)(w:World):(Instr.index 27 (.agg #[y0,y1,y2,y3,y4,y5,y6,y7,y8,y9,y10,y11,y12,y13,y14,y15,y16,y17,y18,y19,y20,y21,y22,y23,y24,y25,y26,y27,y28,y29]) (Vi 0)).run prog w=.ok (.agg #[y0,y1,y2,y3,y4,y5,y6,y7,y8,y9,y10,y11,y12,y13,y14]) w:=by kernel_rfl
theorem idx_b(y0 y1 y2 y3 y4 y5 y6 y7 y8 y9 y10 y11 y12 y13 y14 y15 y16 y17 y18 y19 y20 y21 y22 y23 y24 y25 y26 y27 y28 y29:Value)(w:World):(Instr.index 27 (.agg #[y0,y1,y2,y3,y4,y5,y6,y7,y8,y9,y10,y11,y12,y13,y14,y15,y16,y17,y18,y19,y20,y21,y22,y23,y24,y25,y26,y27,y28,y29]) (Vi 1)).run prog w=.ok (.agg #[y15,y16,y17,y18,y19,y20,y21,y22,y23,y24,y25,y26,y27,y28,y29]) w:=by kernel_rfl
theorem Nx(h:u.rangeAt B 0 cs)(k:Nat):u.rangeAt B k ((cs.drop k).take n):=fun j v hv=>by
 rw[List.getElem?_take] at hv
 split at hv
 · have:=h (k+j) v (by simpa using hv)
   simpa using this
 · cases hv
theorem closures_say(a0 a1 a2 a3 a4 a5 a6 a7 a8 a9 a10 a11 a14:Int)(p q:Option Addr)(al zl:List Int)(cn cm:Nat)(b0 b1 b2 b3 b4 b5 b6 b7 b8 b9 b10 b11 b14:Int)(r s:Option Addr)(bl yl:List Int)(dn dm:Nat)(c0 c1:Int)(B0 B1 B:Nat)(w x:World)(hbw:Bw w x)(hA:AxH x B0 a0 a1 a2 a3 a4 a5 a6 a7 a8 a9 a10 a11 a14 p q al.length zl.length cn cm)(hB:AxH x B1 b0 b1 b2 b3 b4 b5 b6 b7 b8 b9 b10 b11 b14 r s bl.length yl.length dn dm)(hC:CrH x B [Vi a0,Vi a1,Vi a2,Vi a3,Vi a4,Vi a5,Vi a6,Vi a7,Vi a8,Vi a9,Vi a10,Vi a11,.slice p al.length cn,.slice q zl.length cm,Vi a14,Vi b0,Vi b1,Vi b2,Vi b3,Vi b4,Vi b5,Vi b6,Vi b7,Vi b8,Vi b9,Vi b10,Vi b11,.slice r bl.length dn,.slice s yl.length dm,Vi b14,Vi c0,Vi c1])(hla:al.length≤9223372036854775807∧zl.length≤9223372036854775807∧al.length≤cn∧Lst w p al∧Lst w q zl)(hlb:bl.length≤9223372036854775807∧yl.length≤9223372036854775807∧bl.length≤dn∧Lst w r bl∧Lst w s yl):
 ∀k,k<13→(∀j,j<k→eCr a0 a1 a2 a3 a4 a5 a6 a7 a8 a9 a10 a11 a14 al zl b0 b1 b2 b3 b4 b5 b6 b7 b8 b9 b10 b11 b14 bl yl c0 c1 j=0)→∀u,Bw x u→Calls prog (gCr k) (cbCr B0 B1 B k) u fun r u'=>r=.returned (errV (eCr a0 a1 a2 a3 a4 a5 a6 a7 a8 a9 a10 a11 a14 al zl b0 b1 b2 b3 b4 b5 b6 b7 b8 b9 b10 b11 b14 bl yl c0 c1 k))∧Bw u u':=by
 have Ha:=Za hbw;have Hd:=Za hla;have Hf:=Za hlb;have Hb:Hid (∀u,Bw x u→AxB u B0 a0 a1 a2 a3 a4 a5 a6 a7 a8 a9 a10 a11 a14 p q al.length zl.length cn cm):=Za (fun u hu=>(hA.later hu).axb);have Hc:Hid (∀u,Bw x u→AxB u B1 b0 b1 b2 b3 b4 b5 b6 b7 b8 b9 b10 b11 b14 r s bl.length yl.length dn dm):=Za (fun u hu=>(hB.later hu).axb);intro k hk hz u hu
 rcases(show k=0∨k=1∨k=2∨k=3∨k=4∨k=5∨k=6∨k=7∨k=8∨k=9∨k=10∨k=11∨k=12 by omega) with rfl|rfl|rfl|rfl|rfl|rfl|rfl|rfl|rfl|rfl|rfl|rfl|rfl
 · exact clo1_any a0 a1 a2 a3 a4 a5 a6 a7 a8 a9 a10 a11 a14 p q al.length zl.length cn cm _ u (Hb.out u hu)
 · exact clo2_any a0 a1 a2 a3 a4 a5 a6 a7 a8 a9 a10 a11 a14 p q al.length zl.length cn cm _ u (Hb.out u hu)
 · exact clo3_any a0 a1 a2 a3 a4 a5 a6 a7 a8 a9 a10 a11 a14 p q al.length zl.length cn cm _ u (Hb.out u hu)
 · have hz:=hz;have z0:=Ua (hz 0 (by omega));have z2:=Yf (Wx (hz 2 (by omega)));exact clo4_any a0 a1 a2 a3 a4 a5 a6 a7 a8 a9 a10 a11 a14 p q al.length zl.length cn cm z0.1 z2.1 z0.2 ⟨z2.2.2.1.1,by omega⟩ ⟨z2.2.1.1,by omega⟩ _ u (Hb.out u hu)
 · have hz:=hz;have z0:=Ua (hz 0 (by omega));have z2:=Yf (Wx (hz 2 (by omega)));exact clo5_any a0 a1 a2 a3 a4 a5 a6 a7 a8 a9 a10 a11 a14 p q al zl cn cm z0.1 z2.1 z0.2 ⟨z2.2.2.1.1,by omega⟩ ⟨z2.2.1.1,by omega⟩ Hd.out.1 Hd.out.2.1 Hd.out.2.2.1 _ u (Hb.out u hu) (Hd.out.2.2.2.1.later (Ha.out.trans (hu.mono Ha.out.size))) (Hd.out.2.2.2.2.later (Ha.out.trans (hu.mono Ha.out.size)))
 · have hz:=hz;have z3:=grE_noise (hz 3 (by omega));exact clo6_any a0 a1 a2 a3 a4 a5 a6 a7 a8 a9 a10 a11 a14 p q al.length zl.length cn cm z3 _ u (Hb.out u hu)
 · exact clo1_any b0 b1 b2 b3 b4 b5 b6 b7 b8 b9 b10 b11 b14 r s bl.length yl.length dn dm _ u (Hc.out u hu)
 · exact clo2_any b0 b1 b2 b3 b4 b5 b6 b7 b8 b9 b10 b11 b14 r s bl.length yl.length dn dm _ u (Hc.out u hu)
 · exact clo3_any b0 b1 b2 b3 b4 b5 b6 b7 b8 b9 b10 b11 b14 r s bl.length yl.length dn dm _ u (Hc.out u hu)
 · have hz:=hz;have z0:=Ua (hz 6 (by omega));have z2:=Yf (Wx (hz 8 (by omega)));exact clo4_any b0 b1 b2 b3 b4 b5 b6 b7 b8 b9 b10 b11 b14 r s bl.length yl.length dn dm z0.1 z2.1 z0.2 ⟨z2.2.2.1.1,by omega⟩ ⟨z2.2.1.1,by omega⟩ _ u (Hc.out u hu)
 · have hz:=hz;have z0:=Ua (hz 6 (by omega));have z2:=Yf (Wx (hz 8 (by omega)));exact clo5_any b0 b1 b2 b3 b4 b5 b6 b7 b8 b9 b10 b11 b14 r s bl yl dn dm z0.1 z2.1 z0.2 ⟨z2.2.2.1.1,by omega⟩ ⟨z2.2.1.1,by omega⟩ Hf.out.1 Hf.out.2.1 Hf.out.2.2.1 _ u (Hc.out u hu) (Hf.out.2.2.2.1.later (Ha.out.trans (hu.mono Ha.out.size))) (Hf.out.2.2.2.2.later (Ha.out.trans (hu.mono Ha.out.size)))
 · have hz:=hz;have z3:=grE_noise (hz 9 (by omega));exact clo6_any b0 b1 b2 b3 b4 b5 b6 b7 b8 b9 b10 b11 b14 r s bl.length yl.length dn dm z3 _ u (Hc.out u hu)
 · exact check1_any (Vi a0) (Vi a1) (Vi a2) (Vi a3) (Vi a4) (Vi a5) (Vi a6) (Vi a7) (Vi a8) (Vi a9) (Vi a10) (Vi a11) (.slice p al.length cn) (.slice q zl.length cm) (Vi a14) (Vi b0) (Vi b1) (Vi b2) (Vi b3) (Vi b4) (Vi b5) (Vi b6) (Vi b7) (Vi b8) (Vi b9) (Vi b10) (Vi b11) (.slice r bl.length dn) (.slice s yl.length dm) (Vi b14) c0 c1 B u (rangeAt_later hC.range hu)
theorem Wu{e:Nat}(h:u.ownsRow base e size v n xs)(hb:Bw u u'):u'.ownsRow base e size v n xs:=by
 obtain⟨hl,h|⟨g,cap,cur,hv,hg,hh,hr⟩⟩:=h
 · exact⟨hl,.inl h⟩
 · exact⟨hl,.inr ⟨g,cap,cur,hv,hg,(hb.block g (Array.getElem?_eq_some_iff.1 hh).1).trans hh,hr⟩⟩
theorem own_lt{e:Nat}(h:u.ownsRow base e size v n xs):∀k,v.ownBlock=some k→base≤k:=by
 obtain⟨hl,⟨rfl,_⟩|⟨g,cap,cur,rfl,hg,_⟩⟩:=h
 · intro k e;cases e
 · intro k e;cases e;exact hg
theorem lst13(B0 B1 B k:Nat)(hk:k<13):(([.func (.func 176) #[] #[.pointer (some (Ad B0 0))],.func (.func 178) #[] #[.pointer (some (Ad B0 0))],.func (.func 179) #[] #[.pointer (some (Ad B0 0))],.func (.func 181) #[] #[.pointer (some (Ad B0 0))],.func (.func 183) #[] #[.pointer (some (Ad B0 0))],.func (.func 185) #[] #[.pointer (some (Ad B0 0))]]++[.func (.func 176) #[] #[.pointer (some (Ad B1 0))],.func (.func 178) #[] #[.pointer (some (Ad B1 0))],.func (.func 179) #[] #[.pointer (some (Ad B1 0))],.func (.func 181) #[] #[.pointer (some (Ad B1 0))],.func (.func 183) #[] #[.pointer (some (Ad B1 0))],.func (.func 185) #[] #[.pointer (some (Ad B1 0))]]++[.func (.func 116) #[] #[.pointer (some (Ad B 0))]]):List Value)[k]?=some (.func (.func (gCr k)) #[] (cbCr B0 B1 B k)):=by
 rcases(show k=0∨k=1∨k=2∨k=3∨k=4∨k=5∨k=6∨k=7∨k=8∨k=9∨k=10∨k=11∨k=12 by omega) with rfl|rfl|rfl|rfl|rfl|rfl|rfl|rfl|rfl|rfl|rfl|rfl|rfl<;>rfl
theorem hent13(k:Nat)(hk:k<13)(args:Array Value)(w:World):(callFunc (gCr k) args).run prog w=.ok (.enter (gCr k) args) w:=by
 rcases(show k=0∨k=1∨k=2∨k=3∨k=4∨k=5∨k=6∨k=7∨k=8∨k=9∨k=10∨k=11∨k=12 by omega) with rfl|rfl|rfl|rfl|rfl|rfl|rfl|rfl|rfl|rfl|rfl|rfl|rfl<;>kernel_rfl
theorem own13{B0 B1:Nat}(h:u.ownsRow base 142 1 v 13 ([.func (.func 176) #[] #[.pointer (some (Ad B0 0))],.func (.func 178) #[] #[.pointer (some (Ad B0 0))],.func (.func 179) #[] #[.pointer (some (Ad B0 0))],.func (.func 181) #[] #[.pointer (some (Ad B0 0))],.func (.func 183) #[] #[.pointer (some (Ad B0 0))],.func (.func 185) #[] #[.pointer (some (Ad B0 0))]]++[.func (.func 176) #[] #[.pointer (some (Ad B1 0))],.func (.func 178) #[] #[.pointer (some (Ad B1 0))],.func (.func 179) #[] #[.pointer (some (Ad B1 0))],.func (.func 181) #[] #[.pointer (some (Ad B1 0))],.func (.func 183) #[] #[.pointer (some (Ad B1 0))],.func (.func 185) #[] #[.pointer (some (Ad B1 0))]]++[.func (.func 116) #[] #[.pointer (some (Ad B 0))]])):∃g cap,v=.slice (some (Ad g 0)) 13 cap∧Clos u (some (Ad g 0)) 13 gCr (cbCr B0 B1 B):=by
 obtain⟨hl,⟨_,h⟩|⟨g,cap,cur,rfl,hg,hh,h1,h2,h3,h4⟩⟩:=h
 · cases h
 · refine⟨g,cap,rfl,.inr ⟨g,0,rfl,fun k hk=>?_⟩⟩;have:=lst13 B0 B1 B k hk;rw[←h4,List.getElem?_take] at this
   show World.cell? _ _=_
   simp only[World.cell?,hh,Nat.zero_add];simp only[Option.isSome_none,Bool.false_eq_true,if_false];rw[if_pos (by omega)] at this
   simpa using this
theorem infoF':∃i,prog.info? 142=some i∧i.zero=some Value.nilFunc∧i.size=1∧i.bytes=8:=by
 have h:=infoF
 cases hh:prog.info? 142 with
 |none=>rw[hh] at h;cases h
 |some i=>
  rw[hh] at h;simp only[Option.map_some,Option.some.injEq,Prod.mk.injEq] at h;exact⟨i,rfl,h.1,h.2.1,h.2.2⟩
theorem Zic(a0 a1 a2 a3 a4 a5 a6 a7 a8 a9 a10 a11 a14:Int)(p q:Option Addr)(al zl:List Int)(cn cm:Nat)(b0 b1 b2 b3 b4 b5 b6 b7 b8 b9 b10 b11 b14:Int)(r s:Option Addr)(bl yl:List Int)(dn dm:Nat)(c0 c1:Int)(w:World)(hg:GV w)(hla:al.length≤9223372036854775807∧zl.length≤9223372036854775807∧al.length≤cn∧Lst w p al∧Lst w q zl)(hlb:bl.length≤9223372036854775807∧yl.length≤9223372036854775807∧bl.length≤dn∧Lst w r bl∧Lst w s yl):
 Calls prog 64 #[.agg (Qae a0 a1 a2 a3 a4 a5 a6 a7 a8 a9 a10 a11 a14 b0 b1 b2 b3 b4 b5 b6 b7 b8 b9 b10 b11 b14 c0 c1 p q r s al zl bl yl cn cm dn dm)] w (Rt w (errV (fstN (eCr a0 a1 a2 a3 a4 a5 a6 a7 a8 a9 a10 a11 a14 al zl b0 b1 b2 b3 b4 b5 b6 b7 b8 b9 b10 b11 b14 bl yl c0 c1) 13))):=by
 have HG:=Za hg;have Hi:=Za hla;have Hj:=Za hlb;have Hh:Hid (CrH (w.alloc (.cells (Qae a0 a1 a2 a3 a4 a5 a6 a7 a8 a9 a10 a11 a14 b0 b1 b2 b3 b4 b5 b6 b7 b8 b9 b10 b11 b14 c0 c1 p q r s al zl bl yl cn cm dn dm) 29)) w.heap.size [Vi a0,Vi a1,Vi a2,Vi a3,Vi a4,Vi a5,Vi a6,Vi a7,Vi a8,Vi a9,Vi a10,Vi a11,.slice p al.length cn,.slice q zl.length cm,Vi a14,Vi b0,Vi b1,Vi b2,Vi b3,Vi b4,Vi b5,Vi b6,Vi b7,Vi b8,Vi b9,Vi b10,Vi b11,.slice r bl.length dn,.slice s yl.length dm,Vi b14,Vi c0,Vi c1]):=Za (World.alloc_heap_new w _);have HR:Hid ((w.alloc (.cells (Qae a0 a1 a2 a3 a4 a5 a6 a7 a8 a9 a10 a11 a14 b0 b1 b2 b3 b4 b5 b6 b7 b8 b9 b10 b11 b14 c0 c1 p q r s al zl bl yl cn cm dn dm) 29)).rangeAt w.heap.size 0 [Vi a0,Vi a1,Vi a2,Vi a3,Vi a4,Vi a5,Vi a6,Vi a7,Vi a8,Vi a9,Vi a10,Vi a11,.slice p al.length cn,.slice q zl.length cm,Vi a14,Vi b0,Vi b1,Vi b2,Vi b3,Vi b4,Vi b5,Vi b6,Vi b7,Vi b8,Vi b9,Vi b10,Vi b11,.slice r bl.length dn,.slice s yl.length dm,Vi b14]):=Za (Nx (n:=30) Hh.out.range 0);have Hk:Hid (Bw w (w.alloc (.cells (Qae a0 a1 a2 a3 a4 a5 a6 a7 a8 a9 a10 a11 a14 b0 b1 b2 b3 b4 b5 b6 b7 b8 b9 b10 b11 b14 c0 c1 p q r s al zl bl yl cn cm dn dm) 29))):=Za (Zb _ _);have hia:=idx_a (Vi a0) (Vi a1) (Vi a2) (Vi a3) (Vi a4) (Vi a5) (Vi a6) (Vi a7) (Vi a8) (Vi a9) (Vi a10) (Vi a11) (.slice p al.length cn) (.slice q zl.length cm) (Vi a14) (Vi b0) (Vi b1) (Vi b2) (Vi b3) (Vi b4) (Vi b5) (Vi b6) (Vi b7) (Vi b8) (Vi b9) (Vi b10) (Vi b11) (.slice r bl.length dn) (.slice s yl.length dm) (Vi b14);have hib:=idx_b (Vi a0) (Vi a1) (Vi a2) (Vi a3) (Vi a4) (Vi a5) (Vi a6) (Vi a7) (Vi a8) (Vi a9) (Vi a10) (Vi a11) (.slice p al.length cn) (.slice q zl.length cm) (Vi a14) (Vi b0) (Vi b1) (Vi b2) (Vi b3) (Vi b4) (Vi b5) (Vi b6) (Vi b7) (Vi b8) (Vi b9) (Vi b10) (Vi b11) (.slice r bl.length dn) (.slice s yl.length dm) (Vi b14)
 have Hl:=Za (closures_say a0 a1 a2 a3 a4 a5 a6 a7 a8 a9 a10 a11 a14 p q al zl cn cm b0 b1 b2 b3 b4 b5 b6 b7 b8 b9 b10 b11 b14 r s bl yl dn dm c0 c1);obtain⟨i0,hi,hz0,hz1,hz2⟩:=infoF';clear hg hla hlb
 go_enter func64,ntmps64
 go_wp2_with (first
  |(refine Lm 27 (.tmp 6) rfl w.heap.size 0 [Vi a0,Vi a1,Vi a2,Vi a3,Vi a4,Vi a5,Vi a6,Vi a7,Vi a8,Vi a9,Vi a10,Vi a11,.slice p al.length cn,.slice q zl.length cm,Vi a14,Vi b0,Vi b1,Vi b2,Vi b3,Vi b4,Vi b5,Vi b6,Vi b7,Vi b8,Vi b9,Vi b10,Vi b11,.slice r bl.length dn,.slice s yl.length dm,Vi b14] HR.out underlying27 Ub ?_))
 refine wp_loop_rounds 3 ?_;rw[rounds_succ]
 go_wp2_with (first
  |(go_at_call 115;refine(Zjk a0 a1 a2 a3 a4 a5 a6 a7 a8 a9 a10 a11 a14 p q al.length zl.length cn cm _).mono ?_;rintro e w1 ⟨B0,G0,rfl,hA,hL0,hb1⟩;have Hm:=Za hA;have Hn:=Za hL0;have Hc:=Za (Zc (Zc Hk.out (Zb _ _)) hb1);have Ho:=Za ((Hh.out.later (Zb _ _)).later hb1);clear hA hL0 hb1)
  |(at_builtin;refine wpList_append_own _ rfl _ _ 149 rfl w.heap.size 142 i0 Value.nilFunc 1 8 underlying149 hi hz0 hz1 hz2 rfl (by decide) _ _ _ rfl (nilf_own _ _) ⟨G0,0,none⟩ 6 6 [.func (.func 176) #[] #[.pointer (some (Ad B0 0))],.func (.func 178) #[] #[.pointer (some (Ad B0 0))],.func (.func 179) #[] #[.pointer (some (Ad B0 0))],.func (.func 181) #[] #[.pointer (some (Ad B0 0))],.func (.func 183) #[] #[.pointer (some (Ad B0 0))],.func (.func 185) #[] #[.pointer (some (Ad B0 0))]] rfl rfl Hn.out (func_one _ (by simp)) (by unfold maxLen;omega) (by omega) Hc.out.size ?_;intro v1 w2 ho1 hg1 hn1;have Hp:=Za ho1;have Hq:=Za (Hm.out.grown (nilf_own w.heap.size w1) hg1);have Hr:=Za (Ho.out.grown (nilf_own w.heap.size w1) hg1);have Hs:=Za (Hc.out.grown hg1 Hc.out.size (own_lt (nilf_own w.heap.size w1)));clear ho1 hg1 hn1))
 rw[rounds_succ]
 go_wp2_with (first
  |(go_at_call 115;refine(Zjk b0 b1 b2 b3 b4 b5 b6 b7 b8 b9 b10 b11 b14 r s bl.length yl.length dn dm _).mono ?_;rintro e w3 ⟨B1,G1,rfl,hA,hL0,hb3⟩;have Ht:=Za hA;have Hu:=Za hL0;have Hd:=Za (Zc (Zc Hs.out (Zb _ _)) hb3);have Hv:=Za ((Hr.out.later (Zb _ _)).later hb3);have Hw:=Za ((Hq.out.later (Zb _ _)).later hb3);have Ha:=Za (Wu (Wu Hp.out (Zb _ _)) hb3);clear hA hL0 hb3)
  |(at_builtin;refine wpList_append_own _ rfl _ _ 149 rfl w.heap.size 142 i0 Value.nilFunc 1 8 underlying149 hi hz0 hz1 hz2 rfl (by decide) _ _ _ rfl (Ha.out) ⟨G1,0,none⟩ 6 6 [.func (.func 176) #[] #[.pointer (some (Ad B1 0))],.func (.func 178) #[] #[.pointer (some (Ad B1 0))],.func (.func 179) #[] #[.pointer (some (Ad B1 0))],.func (.func 181) #[] #[.pointer (some (Ad B1 0))],.func (.func 183) #[] #[.pointer (some (Ad B1 0))],.func (.func 185) #[] #[.pointer (some (Ad B1 0))]] rfl rfl Hu.out (func_one _ (by simp)) (by unfold maxLen;omega) (by omega) Hd.out.size ?_;intro v2 w4 ho4 hg4 hn4;have Hb:=Za ho4;have Hx:=Za (Hw.out.grown Ha.out hg4);have Hy:=Za (Ht.out.grown Ha.out hg4);have Hz:=Za (Hv.out.grown Ha.out hg4);have Hf:=Za (Hd.out.grown hg4 Hd.out.size (own_lt Ha.out));clear ho4 hg4 hn4))
 rw[rounds_succ]
 go_wp2_with (first
  |(at_builtin;refine wpList_append_own _ rfl _ _ 149 rfl w.heap.size 142 i0 Value.nilFunc 1 8 underlying149 hi hz0 hz1 hz2 rfl (by decide) _ _ _ rfl (Wu Hb.out (Zb _ _)) ⟨w4.heap.size,0,none⟩ 1 1 [.func (.func 116) #[] #[.pointer (some (Ad w.heap.size 0))]] rfl rfl (cell_one_new _ _ _) (func_one _ (by simp)) (by unfold maxLen;omega) (by omega) (Zc Hf.out (Zb _ _)).size ?_;intro v3 w6 ho6 hg6 hn6;have HA:=Za ((Hx.out.later (Zb _ _)).grown (Wu Hb.out (Zb _ _)) hg6);have HB:=Za ((Hy.out.later (Zb _ _)).grown (Wu Hb.out (Zb _ _)) hg6);have HC:=Za ((Hz.out.later (Zb _ _)).grown (Wu Hb.out (Zb _ _)) hg6);have Hg:=Za ((Zc Hf.out (Zb _ _)).grown hg6 (Zc Hf.out (Zb _ _)).size (own_lt Hb.out));obtain⟨g9,cap9,rfl,hcl9⟩:=own13 ho6;have HD:=Za hcl9;clear ho6 hg6 hn6 hcl9)
  |(go_at_call 57;refine Sb (Zib (some (Ad g9 0)) 13 cap9 gCr (cbCr B0 B1 w.heap.size) (eCr a0 a1 a2 a3 a4 a5 a6 a7 a8 a9 a10 a11 a14 al zl b0 b1 b2 b3 b4 b5 b6 b7 b8 b9 b10 b11 b14 bl yl c0 c1) (by decide) w6 HD.out (HG.out.later Hg.out) hent13 (Hl.out B0 B1 w.heap.size w w6 Hg.out HA.out HB.out HC.out Hi.out Hj.out)) fun w7 hb7=>?_))
 go_ret;exact⟨rfl,Zc Hg.out hb7⟩
theorem Blk.grown{t:TypeId}(h:Blk t u B cs)(ho:u.ownsRow base e 1 v k xs)(hne:t≠e)(hg:u.grownBy u' v.ownBlock):Blk t u' B cs:=by
 refine(hg.block B h.lt ?_).trans h
 rcases ownsRow_ne_a ho h (fun cur e=>absurd (Obj.cells.inj e).2.1 hne) with e|e
 · rw[e];simp
 · exact fun e'=>e e'.symm
theorem own_new(xs:List Value)(hb:base≤u.heap.size)(hm:xs.length≤1000):(u.alloc (.cells xs.toArray e)).ownsRow base e 1 (.slice (some (Ad u.heap.size 0)) xs.length xs.length) xs.length xs:=
 ⟨by omega,.inr ⟨u.heap.size,xs.length,xs.toArray,rfl,hb,World.alloc_heap_new u _,Nat.le_refl _,by unfold maxLen;omega,by simp,by simp⟩⟩
theorem infoB21:(prog.info? 34).map (·.size)=some 21:=by kernel_rfl
def bk3(S:FS):List Value:=bkL (S.bk 0)++bkL (S.bk 1)++bkL (S.bk 2)
theorem st_banks(S:FS):((stL S).drop 0).take 21=bk3 S:=rfl
theorem bkidx0(S:FS)(w:World):(Instr.index 34 (.agg (bk3 S).toArray) (Vi 0)).run prog w=.ok (.agg (bkL (S.bk 0)).toArray) w:=by kernel_rfl
theorem bkidx1(S:FS)(w:World):(Instr.index 34 (.agg (bk3 S).toArray) (Vi 1)).run prog w=.ok (.agg (bkL (S.bk 1)).toArray) w:=by kernel_rfl
theorem bkidx2(S:FS)(w:World):(Instr.index 34 (.agg (bk3 S).toArray) (Vi 2)).run prog w=.ok (.agg (bkL (S.bk 2)).toArray) w:=by kernel_rfl
theorem cr_axes(C:CR):((crL C).drop 0).take 30=axL C 0++axL C 1:=rfl
theorem f1new(w1:World)(X:Value)(t:TypeId):∀j u,[X][j]?=some u→(w1.alloc (.cells #[X] t)).cell? ((⟨w1.heap.size,0,none⟩:Addr).add j)=some u:=by
 intro j u hu
 cases j with
 |zero=>simp at hu;subst hu;simp[go_sem,Addr.add]
 |succ j=>simp at hu
theorem f2new(w1:World)(X Y:Value)(t:TypeId):∀j u,[X,Y][j]?=some u→(w1.alloc (.cells #[X,Y] t)).cell? ((⟨w1.heap.size,0,none⟩:Addr).add j)=some u:=by
 intro j u hu
 match j with
 |0=>simp at hu;subst hu;simp[go_sem,Addr.add]
 |1=>simp at hu;subst hu;simp[go_sem,Addr.add]
 |j+2=>simp at hu
theorem Mm{a:Act}(x y:Operand)(hgd:op.guard=none)(ho:op.op=.store 33 x y)(hx:a.eval x=.pointer (some (Ad w.heap.size 0)))(hy:a.eval y=.agg c')(hs:c'.size=7)(hc:c.size=c'.size)(h1:c'.all (·.oneCell')=true)(h:wpList prog ops Q rest (a.put op.dst undef) (w.alloc (.cells c' 33))):wpList prog ops Q (op::rest) a (w.alloc (.cells c 33)):=
 wpList_plain hgd fun _ hK=>by
  unfold Oper.wp execOp
  simp only[ho,hx,hy,Sem.run_bind,Sem.run_pure,Result.andThen_ok,run_storeAt_new w 33 c c' (by rw[Xd,hs]) hc h1];exact hK _ _ h
def gSt(k:Nat):Nat:=[118,120,120,120,122,124,122,124].getD k 0
def cbSt(Bs:Nat)(b x y:Nat→Nat)(k:Nat):Array Value:=[#[.pointer (some (Ad Bs 0))],#[.pointer (some (Ad (b 0) 0))],#[.pointer (some (Ad (b 1) 0))],#[.pointer (some (Ad (b 2) 0))],#[.pointer (some (Ad (x 0) 0)),.pointer (some (Ad Bs 0)),.pointer (some (Ad (y 0) 0))],#[.pointer (some (Ad (x 0) 0)),.pointer (some (Ad Bs 0)),.pointer (some (Ad (y 0) 0))],#[.pointer (some (Ad (x 1) 0)),.pointer (some (Ad Bs 0)),.pointer (some (Ad (y 1) 0))],#[.pointer (some (Ad (x 1) 0)),.pointer (some (Ad Bs 0)),.pointer (some (Ad (y 1) 0))]].getD k #[]
def stV(Bs:Nat)(b x y:Nat→Nat):List Value:=(List.range 8).map fun k=>.func (.func (gSt k)) #[] (cbSt Bs b x y k)
theorem clos8{g cap:Nat}(Bs:Nat)(b x y:Nat→Nat)(h:u.ownsRow base e 1 (.slice (some (Ad g 0)) 8 cap) 8 (stV Bs b x y)):Clos u (some (Ad g 0)) 8 gSt (cbSt Bs b x y):=
 .inr ⟨g,0,rfl,fun k hk=>by
  show World.cell? _ _=_
  rw[Nat.zero_add,h.cellAt k (by omega)]
  simp[stV,hk]⟩
structure SkH (u:World) (C:CR) (S:FS) (Bs:Nat) (b x y:Nat→Nat):Prop where
 st:Blk 41 u Bs (stL S)
 bk:∀j,j<3→Blk 33 u (b j) (bkL (S.bk j))
 ax:∀i,i<2→Blk 26 u (x i) (axL C i)
 ix:∀i,i<2→Blk 3 u (y i) [Vi (i:Int)]
theorem SkH.later{b x y:Nat→Nat}(h:SkH u C S Bs b x y)(hb:Bw u u'):SkH u' C S Bs b x y:=⟨h.st.later hb,fun j hj=>(h.bk j hj).later hb,fun i hi=>(h.ax i hi).later hb,fun i hi=>(h.ix i hi).later hb⟩
theorem stateChecks_ok(C:CR)(S:FS)(w:World):
 Calls prog 65 #[.agg (crL C).toArray,.agg (stL S).toArray] w fun e w'=>∃g cap Bs b x y,e=.returned (.slice (some (Ad g 0)) 8 cap)∧Clos w' (some (Ad g 0)) 8 gSt (cbSt Bs b x y)∧SkH w' C S Bs b x y∧Bw w w':=by
 have hk0:=bkidx0 S;have hk1:=bkidx1 S;have hk2:=bkidx2 S;have hx0:=axidx0 C;have hx1:=axidx1 C;have HS:Hid (Blk 41 ((w.alloc (.cells (crL C).toArray 29)).alloc (.cells (stL S).toArray 41)) (w.heap.size+1) (stL S)):=Za (by have:=Blk.new (w.alloc (.cells (crL C).toArray 29)) 41 (stL S);rw[World.size_alloc] at this;exact this);have HC:=Za ((Blk.new w 29 (crL C)).later (Zb _ (.cells (stL S).toArray 41)));have HB:=Za (Zc (Zb w (.cells (crL C).toArray 29)) (Zb _ (.cells (stL S).toArray 41)));have HO:Hid ((((w.alloc (.cells (crL C).toArray 29)).alloc (.cells (stL S).toArray 41)).alloc (.cells #[.func (.func 118) #[] #[.pointer (some (Ad (w.heap.size+1) 0))]] 142)).ownsRow w.heap.size 142 1 (.slice (some (Ad (w.heap.size+1+1) 0)) 1 1) 1 [.func (.func 118) #[] #[.pointer (some (Ad (w.heap.size+1) 0))]]):=Za (by have:=own_new (e:=142) [.func (.func 118) #[] #[.pointer (some (Ad (w.heap.size+1) 0))]] HB.out.size (by show 1≤1000;omega);rw[World.size_alloc,World.size_alloc] at this;exact this);have HS:=Za (HS.out.later (Zb _ (.cells #[.func (.func 118) #[] #[.pointer (some (Ad (w.heap.size+1) 0))]] 142)));have HC:=Za (HC.out.later (Zb _ (.cells #[.func (.func 118) #[] #[.pointer (some (Ad (w.heap.size+1) 0))]] 142)));have HB:=Za (Zc HB.out (Zb _ (.cells #[.func (.func 118) #[] #[.pointer (some (Ad (w.heap.size+1) 0))]] 142)));obtain⟨i0,hi,hz0,hz1,hz2⟩:=infoF'
 go_enter func65,ntmps65
 go_upto_region 2 with fail;generalize ((w.alloc (.cells (crL C).toArray 29)).alloc (.cells (stL S).toArray 41)).alloc (.cells #[.func (.func 118) #[] #[.pointer (some (Ad (w.heap.size+1) 0))]] 142)=v0 at *;generalize w.heap.size+1+1=Bg at *;generalize w.heap.size+1=Bs at *;have HX:=Za (HS.out.sub 0 21);rw[st_banks] at HX
 go_upto_region 3 with(refine Lm 34 (.tmp 12) rfl Bs 0 (bk3 S) HX.out underlying34 infoB21 ?_);clear HX;refine wp_loop_rounds 4 ?_;rw[rounds_succ];have Ha:Hid (Blk 33 (v0.alloc (.cells (bkL (S.bk 0)).toArray 33)) v0.heap.size (bkL (S.bk 0))):=Za (Blk.new v0 _ _);have HS:=Za (HS.out.later (Zb v0 (.cells (bkL (S.bk 0)).toArray 33)));have HC:=Za (HC.out.later (Zb v0 (.cells (bkL (S.bk 0)).toArray 33)));have HO:=Za (HO.out.alloc (.cells (bkL (S.bk 0)).toArray 33));have HB:=Za (Zc HB.out (Zb v0 (.cells (bkL (S.bk 0)).toArray 33)))
 go_upto_region 5 with(refine Sq 33 _ _ rfl ?_;refine Mm (c':=(bkL (S.bk 0)).toArray) (.tmp 7) (.tmp 16) rfl rfl rfl rfl rfl rfl (Zn _ rfl) ?_);generalize v0.alloc (.cells (bkL (S.bk 0)).toArray 33)=x0 at *;generalize v0.heap.size=b0 at Ha⊢
 go_wp2_with (at_builtin;refine wpList_append_lies _ rfl _ _ 149 rfl w.heap.size 142 i0 Value.nilFunc 1 8 underlying149 hi hz0 hz1 hz2 rfl (by decide) _ _ _ rfl (HO.out.alloc _) ⟨x0.heap.size,0,none⟩ 1 1 [.func (.func 120) #[] #[.pointer (some (Ad b0 0))]] rfl rfl (f1new x0 _ _) (fun x hx=>by simp at hx;subst hx;rfl) (by omega) (by unfold maxLen;omega) (by omega) (Zc HB.out (Zb _ _)).size _ rfl ?_;intro g0 c0 v1 hown hgrow hat hlt;have HS:=Za ((HS.out.later (Zb _ _)).grown (HO.out.alloc _) (by decide) hgrow);have HC:=Za ((HC.out.later (Zb _ _)).grown (HO.out.alloc _) (by decide) hgrow);have Ha:=Za ((Ha.out.later (Zb _ _)).grown (HO.out.alloc _) (by decide) hgrow);have HB:=Za ((Zc HB.out (Zb _ _)).grown hgrow (Zc HB.out (Zb _ _)).size (fun q hq=>(HO.out.lt q hq).1));have HO:=Za hown;clear hown hgrow hat hlt);rw[rounds_succ];have Hb:Hid (Blk 33 (v1.alloc (.cells (bkL (S.bk 1)).toArray 33)) v1.heap.size (bkL (S.bk 1))):=Za (Blk.new v1 _ _);have HS:=Za (HS.out.later (Zb v1 (.cells (bkL (S.bk 1)).toArray 33)));have HC:=Za (HC.out.later (Zb v1 (.cells (bkL (S.bk 1)).toArray 33)));have Ha:=Za (Ha.out.later (Zb v1 (.cells (bkL (S.bk 1)).toArray 33)));have HO:=Za (HO.out.alloc (.cells (bkL (S.bk 1)).toArray 33));have HB:=Za (Zc HB.out (Zb v1 (.cells (bkL (S.bk 1)).toArray 33)))
 go_upto_region 5 with(refine Sq 33 _ _ rfl ?_;refine Mm (c':=(bkL (S.bk 1)).toArray) (.tmp 7) (.tmp 16) rfl rfl rfl rfl rfl rfl (Zn _ rfl) ?_);generalize v1.alloc (.cells (bkL (S.bk 1)).toArray 33)=x1 at *;generalize v1.heap.size=b1 at Hb⊢
 go_wp2_with (at_builtin;refine wpList_append_lies _ rfl _ _ 149 rfl w.heap.size 142 i0 Value.nilFunc 1 8 underlying149 hi hz0 hz1 hz2 rfl (by decide) _ _ _ rfl (HO.out.alloc _) ⟨x1.heap.size,0,none⟩ 1 1 [.func (.func 120) #[] #[.pointer (some (Ad b1 0))]] rfl rfl (f1new x1 _ _) (fun x hx=>by simp at hx;subst hx;rfl) (by omega) (by unfold maxLen;omega) (by omega) (Zc HB.out (Zb _ _)).size _ rfl ?_;intro g1 c1 v2 hown hgrow hat hlt;have HS:=Za ((HS.out.later (Zb _ _)).grown (HO.out.alloc _) (by decide) hgrow);have HC:=Za ((HC.out.later (Zb _ _)).grown (HO.out.alloc _) (by decide) hgrow);have Ha:=Za ((Ha.out.later (Zb _ _)).grown (HO.out.alloc _) (by decide) hgrow);have Hb:=Za ((Hb.out.later (Zb _ _)).grown (HO.out.alloc _) (by decide) hgrow);have HB:=Za ((Zc HB.out (Zb _ _)).grown hgrow (Zc HB.out (Zb _ _)).size (fun q hq=>(HO.out.lt q hq).1));have HO:=Za hown;clear hown hgrow hat hlt);rw[rounds_succ];have Hc:Hid (Blk 33 (v2.alloc (.cells (bkL (S.bk 2)).toArray 33)) v2.heap.size (bkL (S.bk 2))):=Za (Blk.new v2 _ _);have HS:=Za (HS.out.later (Zb v2 (.cells (bkL (S.bk 2)).toArray 33)));have HC:=Za (HC.out.later (Zb v2 (.cells (bkL (S.bk 2)).toArray 33)));have Ha:=Za (Ha.out.later (Zb v2 (.cells (bkL (S.bk 2)).toArray 33)));have Hb:=Za (Hb.out.later (Zb v2 (.cells (bkL (S.bk 2)).toArray 33)));have HO:=Za (HO.out.alloc (.cells (bkL (S.bk 2)).toArray 33));have HB:=Za (Zc HB.out (Zb v2 (.cells (bkL (S.bk 2)).toArray 33)))
 go_upto_region 5 with(refine Sq 33 _ _ rfl ?_;refine Mm (c':=(bkL (S.bk 2)).toArray) (.tmp 7) (.tmp 16) rfl rfl rfl rfl rfl rfl (Zn _ rfl) ?_);generalize v2.alloc (.cells (bkL (S.bk 2)).toArray 33)=x2 at *;generalize v2.heap.size=b2 at Hc⊢
 go_wp2_with (at_builtin;refine wpList_append_lies _ rfl _ _ 149 rfl w.heap.size 142 i0 Value.nilFunc 1 8 underlying149 hi hz0 hz1 hz2 rfl (by decide) _ _ _ rfl (HO.out.alloc _) ⟨x2.heap.size,0,none⟩ 1 1 [.func (.func 120) #[] #[.pointer (some (Ad b2 0))]] rfl rfl (f1new x2 _ _) (fun x hx=>by simp at hx;subst hx;rfl) (by omega) (by unfold maxLen;omega) (by omega) (Zc HB.out (Zb _ _)).size _ rfl ?_;intro g2 c2 v3 hown hgrow hat hlt;have HS:=Za ((HS.out.later (Zb _ _)).grown (HO.out.alloc _) (by decide) hgrow);have HC:=Za ((HC.out.later (Zb _ _)).grown (HO.out.alloc _) (by decide) hgrow);have Ha:=Za ((Ha.out.later (Zb _ _)).grown (HO.out.alloc _) (by decide) hgrow);have Hb:=Za ((Hb.out.later (Zb _ _)).grown (HO.out.alloc _) (by decide) hgrow);have Hc:=Za ((Hc.out.later (Zb _ _)).grown (HO.out.alloc _) (by decide) hgrow);have HB:=Za ((Zc HB.out (Zb _ _)).grown hgrow (Zc HB.out (Zb _ _)).size (fun q hq=>(HO.out.lt q hq).1));have HO:=Za hown;clear hown hgrow hat hlt);rw[rounds_succ];have HX:=Za (HC.out.sub 0 30);rw[cr_axes] at HX
 go_upto_region 8 with(refine Lm 27 (.tmp 22) rfl w.heap.size 0 (axL C 0++axL C 1) HX.out underlying27 Ub ?_);clear HX;refine wp_loop_rounds 3 ?_;rw[rounds_succ];have Hd:Hid (Blk 26 ((v3.alloc (.cells #[Vi 0] 3)).alloc (.cells (axL C 0).toArray 26)) (v3.heap.size+1) (axL C 0)):=Za (by have:=Blk.new (v3.alloc (.cells #[Vi 0] 3)) 26 (axL C 0);rw[World.size_alloc] at this;exact this);have Hf:Hid (Blk 3 ((v3.alloc (.cells #[Vi 0] 3)).alloc (.cells (axL C 0).toArray 26)) v3.heap.size [Vi 0]):=Za ((Blk.new v3 _ _).later (Zb _ _));have HS:=Za (HS.out.later (Zc (Zb v3 (.cells #[Vi 0] 3)) (Zb _ (.cells (axL C 0).toArray 26))));have HC:=Za (HC.out.later (Zc (Zb v3 (.cells #[Vi 0] 3)) (Zb _ (.cells (axL C 0).toArray 26))));have Ha:=Za (Ha.out.later (Zc (Zb v3 (.cells #[Vi 0] 3)) (Zb _ (.cells (axL C 0).toArray 26))));have Hb:=Za (Hb.out.later (Zc (Zb v3 (.cells #[Vi 0] 3)) (Zb _ (.cells (axL C 0).toArray 26))));have Hc:=Za (Hc.out.later (Zc (Zb v3 (.cells #[Vi 0] 3)) (Zb _ (.cells (axL C 0).toArray 26))));have HO:=Za (Wu HO.out (Zc (Zb v3 (.cells #[Vi 0] 3)) (Zb _ (.cells (axL C 0).toArray 26))));have HB:=Za (Zc HB.out (Zc (Zb v3 (.cells #[Vi 0] 3)) (Zb _ (.cells (axL C 0).toArray 26))))
 go_upto_region 10 with(refine Sq 26 _ _ rfl ?_;refine Xy (c':=(axL C 0).toArray) (.tmp 9) (.tmp 27) rfl rfl (by rw[World.size_alloc];rfl) rfl rfl rfl (Zn _ rfl) ?_);generalize ((v3.alloc (.cells #[Vi 0] 3)).alloc (.cells (axL C 0).toArray 26))=y0 at *;generalize v3.heap.size+1=a0 at Hd⊢;generalize v3.heap.size=q0 at Hf⊢
 go_wp2_with (at_builtin;refine wpList_append_lies _ rfl _ _ 149 rfl w.heap.size 142 i0 Value.nilFunc 1 8 underlying149 hi hz0 hz1 hz2 rfl (by decide) _ _ _ rfl (HO.out.alloc _) ⟨y0.heap.size,0,none⟩ 2 2 [.func (.func 122) #[] #[.pointer (some (Ad a0 0)),.pointer (some (Ad Bs 0)),.pointer (some (Ad q0 0))],.func (.func 124) #[] #[.pointer (some (Ad a0 0)),.pointer (some (Ad Bs 0)),.pointer (some (Ad q0 0))]] rfl rfl (f2new y0 _ _ _) (fun x hx=>by simp at hx;rcases hx with rfl|rfl<;>rfl) (by omega) (by unfold maxLen;omega) (by omega) (Zc HB.out (Zb _ _)).size _ rfl ?_;intro g3 c3 v4 hown hgrow hat hlt;have HS:=Za ((HS.out.later (Zb _ _)).grown (HO.out.alloc _) (by decide) hgrow);have HC:=Za ((HC.out.later (Zb _ _)).grown (HO.out.alloc _) (by decide) hgrow);have Ha:=Za ((Ha.out.later (Zb _ _)).grown (HO.out.alloc _) (by decide) hgrow);have Hb:=Za ((Hb.out.later (Zb _ _)).grown (HO.out.alloc _) (by decide) hgrow);have Hc:=Za ((Hc.out.later (Zb _ _)).grown (HO.out.alloc _) (by decide) hgrow);have Hd:=Za ((Hd.out.later (Zb _ _)).grown (HO.out.alloc _) (by decide) hgrow);have Hf:=Za ((Hf.out.later (Zb _ _)).grown (HO.out.alloc _) (by decide) hgrow);have HB:=Za ((Zc HB.out (Zb _ _)).grown hgrow (Zc HB.out (Zb _ _)).size (fun q hq=>(HO.out.lt q hq).1));have HO:=Za hown;clear hown hgrow hat hlt);rw[rounds_succ];have Hg:Hid (Blk 26 ((v4.alloc (.cells #[Vi 1] 3)).alloc (.cells (axL C 1).toArray 26)) (v4.heap.size+1) (axL C 1)):=Za (by have:=Blk.new (v4.alloc (.cells #[Vi 1] 3)) 26 (axL C 1);rw[World.size_alloc] at this;exact this);have Hh:Hid (Blk 3 ((v4.alloc (.cells #[Vi 1] 3)).alloc (.cells (axL C 1).toArray 26)) v4.heap.size [Vi 1]):=Za ((Blk.new v4 _ _).later (Zb _ _))
 have HS:=Za (HS.out.later (Zc (Zb v4 (.cells #[Vi 1] 3)) (Zb _ (.cells (axL C 1).toArray 26))));have HC:=Za (HC.out.later (Zc (Zb v4 (.cells #[Vi 1] 3)) (Zb _ (.cells (axL C 1).toArray 26))));have Ha:=Za (Ha.out.later (Zc (Zb v4 (.cells #[Vi 1] 3)) (Zb _ (.cells (axL C 1).toArray 26))));have Hb:=Za (Hb.out.later (Zc (Zb v4 (.cells #[Vi 1] 3)) (Zb _ (.cells (axL C 1).toArray 26))));have Hc:=Za (Hc.out.later (Zc (Zb v4 (.cells #[Vi 1] 3)) (Zb _ (.cells (axL C 1).toArray 26))));have Hd:=Za (Hd.out.later (Zc (Zb v4 (.cells #[Vi 1] 3)) (Zb _ (.cells (axL C 1).toArray 26))));have Hf:=Za (Hf.out.later (Zc (Zb v4 (.cells #[Vi 1] 3)) (Zb _ (.cells (axL C 1).toArray 26))));have HO:=Za (Wu HO.out (Zc (Zb v4 (.cells #[Vi 1] 3)) (Zb _ (.cells (axL C 1).toArray 26))));have HB:=Za (Zc HB.out (Zc (Zb v4 (.cells #[Vi 1] 3)) (Zb _ (.cells (axL C 1).toArray 26))))
 go_upto_region 10 with(refine Sq 26 _ _ rfl ?_;refine Xy (c':=(axL C 1).toArray) (.tmp 9) (.tmp 27) rfl rfl (by rw[World.size_alloc];rfl) rfl rfl rfl (Zn _ rfl) ?_);generalize ((v4.alloc (.cells #[Vi 1] 3)).alloc (.cells (axL C 1).toArray 26))=y1 at *;generalize v4.heap.size+1=a1 at Hg⊢;generalize v4.heap.size=q1 at Hh⊢
 go_wp2_with (at_builtin;refine wpList_append_lies _ rfl _ _ 149 rfl w.heap.size 142 i0 Value.nilFunc 1 8 underlying149 hi hz0 hz1 hz2 rfl (by decide) _ _ _ rfl (HO.out.alloc _) ⟨y1.heap.size,0,none⟩ 2 2 [.func (.func 122) #[] #[.pointer (some (Ad a1 0)),.pointer (some (Ad Bs 0)),.pointer (some (Ad q1 0))],.func (.func 124) #[] #[.pointer (some (Ad a1 0)),.pointer (some (Ad Bs 0)),.pointer (some (Ad q1 0))]] rfl rfl (f2new y1 _ _ _) (fun x hx=>by simp at hx;rcases hx with rfl|rfl<;>rfl) (by omega) (by unfold maxLen;omega) (by omega) (Zc HB.out (Zb _ _)).size _ rfl ?_;intro g4 c4 v5 hown hgrow hat hlt;have HS:=Za ((HS.out.later (Zb _ _)).grown (HO.out.alloc _) (by decide) hgrow);have HC:=Za ((HC.out.later (Zb _ _)).grown (HO.out.alloc _) (by decide) hgrow);have Ha:=Za ((Ha.out.later (Zb _ _)).grown (HO.out.alloc _) (by decide) hgrow);have Hb:=Za ((Hb.out.later (Zb _ _)).grown (HO.out.alloc _) (by decide) hgrow);have Hc:=Za ((Hc.out.later (Zb _ _)).grown (HO.out.alloc _) (by decide) hgrow);have Hd:=Za ((Hd.out.later (Zb _ _)).grown (HO.out.alloc _) (by decide) hgrow);have Hf:=Za ((Hf.out.later (Zb _ _)).grown (HO.out.alloc _) (by decide) hgrow);have Hg:=Za ((Hg.out.later (Zb _ _)).grown (HO.out.alloc _) (by decide) hgrow);have Hh:=Za ((Hh.out.later (Zb _ _)).grown (HO.out.alloc _) (by decide) hgrow);have HB:=Za ((Zc HB.out (Zb _ _)).grown hgrow (Zc HB.out (Zb _ _)).size (fun q hq=>(HO.out.lt q hq).1));have HO:=Za hown;clear hown hgrow hat hlt);rw[rounds_succ];go_wp2_with fail;go_ret;refine⟨g4,c4,Bs,fun j=>if j=0 then b0 else if j=1 then b1 else b2,fun j=>if j=0 then a0 else a1,fun j=>if j=0 then q0 else q1,rfl,clos8 _ _ _ _ HO.out,⟨HS.out,fun j hj=>?_,fun j hj=>?_,fun j hj=>?_⟩,HB.out⟩
 · rcases Qth j with rfl|rfl|rfl
   · exact Ha.out
   · exact Hb.out
   · exact Hc.out
 · rcases Qtw j with rfl|rfl
   · exact Hd.out
   · exact Hg.out
 · rcases Qtw j with rfl|rfl
   · exact Hf.out
   · exact Hh.out
theorem Yk:(prog.info? 41).map (·.size)=some 30:=by kernel_rfl
def crE(C:CR):Int:=fstN (eCr (C.a 0 0) (C.a 0 1) (C.a 0 2) (C.a 0 3) (C.a 0 4) (C.a 0 5) (C.a 0 6) (C.a 0 7) (C.a 0 8) (C.a 0 9) (C.a 0 10) (C.a 0 11) (C.a 0 14) (C.al 0) (C.zl 0) (C.a 1 0) (C.a 1 1) (C.a 1 2) (C.a 1 3) (C.a 1 4) (C.a 1 5) (C.a 1 6) (C.a 1 7) (C.a 1 8) (C.a 1 9) (C.a 1 10) (C.a 1 11) (C.a 1 14) (C.al 1) (C.zl 1) C.c0 C.c1) 13
def eSt(C:CR)(S:FS)(sv:Nat→List Sv)(k:Nat):Int:=[clE S.n,Yg (S.bk 0).b (S.bk 0).l,Yg (S.bk 1).b (S.bk 1).l,Yg (S.bk 2).b (S.bk 2).l,csE C 0 (sv 0),chE C 0 (S.hd 0),csE C 1 (sv 1),chE C 1 (S.hd 1)].getD k 0
def stE(C:CR)(S:FS)(sv:Nat→List Sv):Int:=if crE C=0 then(if fstN (eSt C S sv) 8=0 then 0 else 3) else crE C
def CrL(u:World)(C:CR):Prop:=∀i,i<2→(C.al i).length≤9223372036854775807∧(C.zl i).length≤9223372036854775807∧(C.al i).length≤C.cn i∧Lst u (C.p i) (C.al i)∧Lst u (C.q i) (C.zl i)
theorem CrL.later(h:CrL u C)(hb:Bw u u'):CrL u' C:=fun i hi=>⟨(h i hi).1,(h i hi).2.1,(h i hi).2.2.1,(h i hi).2.2.2.1.later hb,(h i hi).2.2.2.2.later hb⟩
def SvL(u:World)(S:FS)(sv:Nat→List Sv):Prop:=∀i,i<2→S.sn i=(sv i).length∧(sv i).length≤9∧VLs u (S.sp i) (sv i)
theorem SvL.later(h:SvL u S sv)(hb:Bw u u'):SvL u' S sv:=fun i hi=>⟨(h i hi).1,(h i hi).2.1,(h i hi).2.2.later hb⟩
def axE(C:CR)(i:Nat):Nat→Int:=eAx (C.a i 0) (C.a i 1) (C.a i 2) (C.a i 3) (C.a i 4) (C.a i 5) (C.a i 6) (C.a i 7) (C.a i 8) (C.a i 9) (C.a i 10) (C.a i 11) (C.a i 14) (C.al i) (C.zl i)
theorem Xq(h:crE C=0)(hi:i<2)(hk:k<6):axE C i k=0:=by
 have a:=fstN_all h
 rcases Qtw i with rfl|rfl
 · have:=a k (by omega)
   unfold eCr at this
   rwa[if_pos hk] at this
 · have:=a (k+6) (by omega)
   unfold eCr at this
   rwa[if_neg (by omega),if_pos (by omega),Nat.add_sub_cancel] at this
theorem crE_speed(h:crE C=0):Z7 C.c0 C.c1=0:=fstN_all h 12 (by omega)
theorem arE_arB{T R S C:Int}(h:arE T R S C=0):arB T R S C=true:=by
 unfold arE at h
 split at h
 · assumption
 · cases h
theorem axC_of(h:crE C=0)(hl:CrL u C)(hi:i<2):AxC u C i:=by
 have h0:=Ua (show rgE (C.a i 4) (C.a i 3)=0 from Xq h hi (k:=0) (by omega));have h2:=Yf (arE_arB (show arE (C.a i 5) (C.a i 6) (C.a i 7) (C.a i 10)=0 from Xq h hi (k:=2) (by omega)));exact⟨h0.1,h2.1,h0.2,⟨h2.2.2.1.1,by omega⟩,⟨h2.2.1.1,by omega⟩,(hl i hi).1,(hl i hi).2.1,(hl i hi).2.2.1,(hl i hi).2.2.2.1,(hl i hi).2.2.2.2⟩
theorem hent8(k:Nat)(hk:k<8)(args:Array Value)(w:World):(callFunc (gSt k) args).run prog w=.ok (.enter (gSt k) args) w:=by
 rcases(show k=0∨k=1∨k=2∨k=3∨k=4∨k=5∨k=6∨k=7 by omega) with rfl|rfl|rfl|rfl|rfl|rfl|rfl|rfl<;>kernel_rfl
theorem checks_say{b x y:Nat→Nat}(h0:crE C=0)(hs:SkH w C S Bs b x y)(hl:CrL w C)(hv:SvL w S sv):∀k,k<8→∀u,Bw w u→Calls prog (gSt k) (cbSt Bs b x y k) u fun r u'=>r=.returned (errV (eSt C S sv k))∧Bw u u':=by
 intro k hk u hb;have hs:=hs.later hb;have hl:=hl.later hb;have hv:=hv.later hb
 rcases(show k=0∨k=1∨k=2∨k=3∨k=4∨k=5∨k=6∨k=7 by omega) with rfl|rfl|rfl|rfl|rfl|rfl|rfl|rfl
 · exact sc1_any hs.st
 · exact sc2_any (S.bk 0) (hs.bk 0 (by omega))
 · exact sc2_any (S.bk 1) (hs.bk 1 (by omega))
 · exact sc2_any (S.bk 2) (hs.bk 2 (by omega))
 · exact sc3_any (i:=0) (by omega) (hs.ax 0 (by omega)) hs.st (hs.ix 0 (by omega)) (hv 0 (by omega)).1 (hv 0 (by omega)).2.1 (hv 0 (by omega)).2.2
 · exact sc4_any (i:=0) (by omega) (hs.ax 0 (by omega)) hs.st (hs.ix 0 (by omega)) (axC_of h0 hl (by omega))
 · exact sc3_any (i:=1) (by omega) (hs.ax 1 (by omega)) hs.st (hs.ix 1 (by omega)) (hv 1 (by omega)).1 (hv 1 (by omega)).2.1 (hv 1 (by omega)).2.2
 · exact sc4_any (i:=1) (by omega) (hs.ax 1 (by omega)) hs.st (hs.ix 1 (by omega)) (axC_of h0 hl (by omega))
theorem craftCheck_c(C:CR)(w:World)(hg:GV w)(hl:CrL w C):Calls prog 64 #[.agg (crL C).toArray] w (Rt w (errV (crE C))):=
 Zic (C.a 0 0) (C.a 0 1) (C.a 0 2) (C.a 0 3) (C.a 0 4) (C.a 0 5) (C.a 0 6) (C.a 0 7) (C.a 0 8) (C.a 0 9) (C.a 0 10) (C.a 0 11) (C.a 0 14) (C.p 0) (C.q 0) (C.al 0) (C.zl 0) (C.cn 0) (C.cm 0) (C.a 1 0) (C.a 1 1) (C.a 1 2) (C.a 1 3) (C.a 1 4) (C.a 1 5) (C.a 1 6) (C.a 1 7) (C.a 1 8) (C.a 1 9) (C.a 1 10) (C.a 1 11) (C.a 1 14) (C.p 1) (C.q 1) (C.al 1) (C.zl 1) (C.cn 1) (C.cm 1) C.c0 C.c1 w hg (hl 0 (by omega)) (hl 1 (by omega))
theorem checkState_any(C:CR)(S:FS)(sv:Nat→List Sv)(w:World)(hg:GV w)(hl:CrL w C)(hv:SvL w S sv):
 Calls prog 18 #[.agg (crL C).toArray,.agg (stL S).toArray] w (Rt w (errV (stE C S sv))):=by
 have hck:=fun u (h:Bw w u)=>craftCheck_c C u (hg.later h) (hl.later h);have HS:Hid (Blk 41 ((w.alloc (.cells (crL C).toArray 29)).alloc (.cells (stL S).toArray 41)) (w.heap.size+1) (stL S)):=Za (by have:=Blk.new (w.alloc (.cells (crL C).toArray 29)) 41 (stL S);rw[World.size_alloc] at this;exact this);have HC:=Za ((Blk.new w 29 (crL C)).later (Zb _ (.cells (stL S).toArray 41)));have HB:=Za (Zc (Zb w (.cells (crL C).toArray 29)) (Zb _ (.cells (stL S).toArray 41)));have Ha:Hid (World.rangeAt ((w.alloc (.cells (crL C).toArray 29)).alloc (.cells (stL S).toArray 41)) w.heap.size 0 (crL C)):=Za HC.out.range
 by_cases h0:crE C=0
 · have hsc:=stateChecks_ok C S;have HE:Hid (stE C S sv=if fstN (eSt C S sv) 8=0 then 0 else 3):=Za (by unfold stE;rw[if_pos h0]);rw[HE.out];simp only[h0,Z2] at hck;have Hb:=Za (fun(u v:World) (h:Bw w u) (g cap Bs:Nat) (b x y:Nat→Nat) (hc:Clos u (some (Ad g 0)) 8 gSt (cbSt Bs b x y)) (hs:SkH u C S Bs b x y)=>Zib (some (Ad g 0)) 8 cap gSt (cbSt Bs b x y) (eSt C S sv) (by decide) u hc (hg.later h) hent8 (fun k hk _=>checks_say h0 hs (hl.later h) (hv.later h) k hk));clear hg hl hv
   by_cases hf:fstN (eSt C S sv) 8=0
   · rw[if_pos hf,Z2];simp only[hf,Z2] at Hb
     go_enter func18,ntmps18
     go_upto_region 4 with(first
      |(refine Lm 29 (.tmp 2) rfl w.heap.size 0 (crL C) Ha.out underlying29 Zt ?_)
      |(go_at_call 64;refine Sb (hck _ HB.out) fun w1 hb=>?_;have HB:=Za (Zc HB.out hb);have Ha:=Za (HC.out.later hb).range;have Hc:=Za (HS.out.later hb).range;clear hb))
     go_wp2_with (first
      |(refine Lm 29 (.tmp 2) rfl w.heap.size 0 (crL C) Ha.out underlying29 Zt ?_)
      |(refine Lm 41 (.tmp 3) rfl (w.heap.size+1) 0 (stL S) Hc.out underlying41 Yk ?_)
      |(go_at_call 65;refine(hsc _).mono ?_;rintro e w2 ⟨g,cap,Bs,b,x,y,rfl,hc,hs,hb⟩;have HB:=Za (Zc HB.out hb);have HX:=Za (And.intro hc hs);clear hb hc hs)
      |(go_at_call 57;refine Sb (Hb.out _ w HB.out _ _ _ _ _ _ HX.out.1 HX.out.2) fun w3 hb=>?_;have HB:=Za (Zc HB.out hb);clear hb))
     go_ret;exact⟨rfl,HB.out⟩
   · rw[if_neg hf,Z4 (by decide)];simp only[Z4 hf] at Hb;generalize fstN (eSt C S sv) 8=fe at*
     go_enter func18,ntmps18
     go_upto_region 4 with(first
      |(refine Lm 29 (.tmp 2) rfl w.heap.size 0 (crL C) Ha.out underlying29 Zt ?_)
      |(go_at_call 64;refine Sb (hck _ HB.out) fun w1 hb=>?_;have HB:=Za (Zc HB.out hb);have Ha:=Za (HC.out.later hb).range;have Hc:=Za (HS.out.later hb).range;clear hb))
     go_wp2_with (first
      |(refine Lm 29 (.tmp 2) rfl w.heap.size 0 (crL C) Ha.out underlying29 Zt ?_)
      |(refine Lm 41 (.tmp 3) rfl (w.heap.size+1) 0 (stL S) Hc.out underlying41 Yk ?_)
      |(go_at_call 65;refine(hsc _).mono ?_;rintro e w2 ⟨g,cap,Bs,b,x,y,rfl,hc,hs,hb⟩;have HB:=Za (Zc HB.out hb);have HX:=Za (And.intro hc hs);clear hb hc hs)
      |(go_at_call 57;refine Sb (Hb.out _ w HB.out _ _ _ _ _ _ HX.out.1 HX.out.2) fun w3 hb=>?_;have HB:=Za (Zc HB.out hb);clear hb))
     go_ret;exact⟨rfl,HB.out⟩
 · have HE:Hid (stE C S sv=crE C):=Za (by unfold stE;rw[if_neg h0]);rw[HE.out,Z4 h0];simp only[Z4 h0] at hck;generalize crE C=ce at *;clear hg hl hv
   go_enter func18,ntmps18
   go_wp2_with (first
    |(refine Lm 29 (.tmp 2) rfl w.heap.size 0 (crL C) Ha.out underlying29 Zt ?_)
    |(go_at_call 64;refine Sb (hck _ HB.out) fun w1 hb=>?_;have HB:=Za (Zc HB.out hb);clear hb))
   go_ret;exact⟨rfl,HB.out⟩
def ZS(w:World)(a:Option Addr)(n:Nat):Prop:=n=0∨∃b off,a=some (Ad b off)∧∀k,k<n→Kc w b (off+k*3) (Vi 0)∧Kc w b (off+k*3+1) (Vi 0)∧Kc w b (off+k*3+2) (.bool false)
theorem ZS.later{w':World}(h:ZS w a n)(hb:Bw w w'):ZS w' a n:=by
 rcases h with h|⟨b,off,h,hc⟩
 · exact .inl h
 · exact .inr ⟨b,off,h,fun k hk=>⟨cell_later hb (hc k hk).1,cell_later hb (hc k hk).2.1,cell_later hb (hc k hk).2.2⟩⟩
def StH(u:World)(B:Nat)(cs:List Value):Prop:=u.heap[B]?=some (.cells cs.toArray 41 (0,0))
theorem StH.lt(h:StH u B cs):B<u.heap.size:=(Array.getElem?_eq_some_iff.1 h).1
theorem StH.later(h:StH u B cs)(hb:Bw u u'):StH u' B cs:=(hb.block B h.lt).trans h
theorem StH.cell(h:StH u B cs)(hv:cs[j]?=some v):u.cell? (Ad B j)=some v∧u.frozen? (Ad B j)=false:=by
 unfold StH at h
 constructor
 · simp only[World.cell?,h];simp only[Option.isSome_none,Bool.false_eq_true,if_false]
   simpa using hv
 · simp[World.frozen?,h]
theorem StH.range(h:StH u B cs):u.rangeAt B 0 cs:=fun j v hv=>by rw[Nat.zero_add];exact(h.cell hv).1
theorem StH.there(h:StH u B cs)(hn:n=cs.length):u.there B 0 n:=fun j hj=>by
 subst hn;have:=h.cell (List.getElem?_eq_getElem hj);rw[Nat.zero_add];exact⟨by rw[this.1];rfl,this.2⟩
theorem StH.set(h:StH u B cs)(j:Nat)(v:Value):StH (u.setCell (Ad B j) v) B (cs.set j v):=by
 unfold StH at h⊢
 rw[heap_setCell_same u B j cs.toArray 41 v h]
 simp
theorem StH.far(h:StH u B cs)(hV:B≠V)(j:Nat)(v:Value):StH (u.setCell (Ad V j) v) B cs:=(heap_setCell_other u ⟨V,j,none⟩ B v hV).trans h
theorem CrH.far(h:CrH u B cs)(hV:B≠V)(j:Nat)(v:Value):CrH (u.setCell (Ad V j) v) B cs:=(heap_setCell_other u ⟨V,j,none⟩ B v hV).trans h
theorem ZS.far(h:ZS u a n)(hV:∀b off,a=some (Ad b off)→b≠V):ZS (u.setCell (Ad V j) v) a n:=by
 rcases h with h|⟨b,off,h,hc⟩
 · exact .inl h
 · have f:∀o y,Kc u b o y→(u.setCell (Ad V j) v).cell? (Ad b o)=some y:=fun o y hy=>(World.cell?_setCell_other _ _ _ _ (fun e=>hV b off h (congrArg Addr.block e).symm)).trans hy;exact .inr ⟨b,off,h,fun k hk=>⟨f _ _ (hc k hk).1,f _ _ (hc k hk).2.1,f _ _ (hc k hk).2.2⟩⟩
theorem Ny{a:Act}(x y:Operand)(hgd:op.guard=none)(ho:op.op=.store 41 x y)(hx:a.eval x=.pointer (some (Ad w.heap.size 0)))(hy:a.eval y=.agg c')(hs:c'.size=30)(hc:c.size=c'.size)(h1:c'.all (·.oneCell')=true)(h:wpList prog ops Q rest (a.put op.dst undef) (w.alloc (.cells c' 41))):wpList prog ops Q (op::rest) a (w.alloc (.cells c 41)):=
 wpList_plain hgd fun _ hK=>by
  unfold Oper.wp execOp
  simp only[ho,hx,hy,Sem.run_bind,Sem.run_pure,Result.andThen_ok,run_storeAt_new w 41 c c' (by rw[Yk,hs]) hc h1];exact hK _ _ h
theorem infoV:(prog.info? 116).map (fun i=>(i.zero,i.size,i.bytes))=some (some (.agg #[Vi 0,Vi 0,.bool false]),3,24):=by kernel_rfl
theorem Ur(n:Nat)(hn:n≤9)(w:World):(Instr.makeSlice 35 (Vi (n:Int)) (Vi (n:Int))).run prog w=.ok (.slice (some (Ad w.heap.size 0)) n n) (w.alloc (.cells (madeCells #[Vi 0,Vi 0,.bool false] (n*3)) 116)):=by
 cases hh:prog.info? 116 with
 |none=>have h:=infoV;rw[hh] at h;cases h
 |some i0=>
  have h:=infoV;rw[hh] at h;simp only[Option.map_some,Option.some.injEq,Prod.mk.injEq] at h;have g:=run_make (P:=prog) (w:=w) 35 116 i0 (.agg #[Vi 0,Vi 0,.bool false]) underlying35 hh h.1 .i64 .i64 (n:Int) (n:Int) (by omega) (by omega) (by rw[h.2.2];omega) (by omega);rw[h.2.1,Int.toNat_natCast] at g;exact g
theorem made_at(n k j:Nat)(hk:k<n)(hj:j<3):(madeCells #[Vi 0,Vi 0,.bool false] (n*3))[k*3+j]?=(#[Vi 0,Vi 0,.bool false]:Array Value)[j]?:=by
 have h:k*3+j<n*3:=by omega
 unfold madeCells
 rw[Array.getElem?_map,Array.getElem?_eq_getElem (by simpa using h)];simp only[Array.getElem_range,Option.map_some]
 have e:(k*3+j)%3=j:=by omega
 show some ((#[Vi 0,Vi 0,.bool false]:Array Value)[(k*3+j)%3]!)=_
 rw[e]
 rcases Qth j with rfl|rfl|rfl<;>rfl
theorem zs_made(n:Nat)(w:World):ZS (w.alloc (.cells (madeCells #[Vi 0,Vi 0,.bool false] (n*3)) 116)) (some (Ad w.heap.size 0)) n:=by
 refine .inr ⟨w.heap.size,0,rfl,fun k hk=>?_⟩;have hh:=World.alloc_heap_new w (.cells (madeCells #[Vi 0,Vi 0,.bool false] (n*3)) 116)
 have f:∀j v,j<3→(#[Vi 0,Vi 0,.bool false]:Array Value)[j]?=some v→(w.alloc (.cells (madeCells #[Vi 0,Vi 0,.bool false] (n*3)) 116)).cell? (Ad w.heap.size (0+k*3+j))=some v:=fun j v hj hv=>by
  show World.cell? _ _=_
  simp only[World.cell?,hh,Nat.zero_add];simp only[Option.isSome_none,Bool.false_eq_true,if_false];rw[made_at n k j hk hj];exact hv
 exact⟨f 0 _ (by omega) rfl,f 1 _ (by omega) rfl,f 2 _ (by omega) rfl⟩
theorem res_new(tmps:Array Value)(U:World)(Y:Nat)(cs:List Value)(h2:tmps.getD 2 undef=.pointer (some (Ad Y 0)))(hR:U.rangeAt Y 0 cs)(hn:cs.length=30):
 (results Tryz.f69 tmps).run prog U=.ok (.agg cs.toArray) U:=by
 have h3:tmps[2]?.getD undef=.pointer (some (Ad Y 0)):=by simpa using h2
 simp[results,results69,h3,asAddr,run_loadVar_mid U Y 0 41 cs _ hR underlying41 rfl (by rw[Yk,hn])]
theorem Mn{K b:Nat}{w0:World}:∀(vs:List Value) (o:Nat) (w:World),Below K w0 w→K≤b→Below K w0 (w.setCells b o vs)
 |[],_,_,h,_=>h
 |v::r,o,w,h,hb=>Mn r (o+1) (w.setCell ⟨b,o,none⟩ v) (h.setCell (by simpa using hb) v) hb
theorem U7(hV:∀b off,a=some (Ad b off)→b≠V):∀(vs:List Value) (o:Nat) (w:World),ZS w a n→ZS (w.setCells V o vs) a n
 |[],_,_,h=>h
 |v::r,o,w,h=>U7 hV r (o+1) (w.setCell ⟨V,o,none⟩ v) (h.far hV)
theorem longLines_any(a0 a1 a2 a3 a4 a5 a6 a7 a8 a9 a10 a11 a14:Int)(p q:Option Addr)(n m cn cm:Nat)(b0 b1 b2 b3 b4 b5 b6 b7 b8 b9 b10 b11 b14:Int)(r s:Option Addr)(n' m' dn dm:Nat)(c0 c1:Int)(w:World):
 Calls prog 11 #[.agg (Qag a0 a1 a2 a3 a4 a5 a6 a7 a8 a9 a10 a11 a14 b0 b1 b2 b3 b4 b5 b6 b7 b8 b9 b10 b11 b14 c0 c1 p q r s n cn m cm n' dn m' dm)] w (Rt w (.bool (decide (20<n)||decide (20<m)||decide (20<n')||decide (20<m')))):=by
 have Ha:Hid (CrH (w.alloc (.cells (Qag a0 a1 a2 a3 a4 a5 a6 a7 a8 a9 a10 a11 a14 b0 b1 b2 b3 b4 b5 b6 b7 b8 b9 b10 b11 b14 c0 c1 p q r s n cn m cm n' dn m' dm) 29)) w.heap.size [Vi a0,Vi a1,Vi a2,Vi a3,Vi a4,Vi a5,Vi a6,Vi a7,Vi a8,Vi a9,Vi a10,Vi a11,.slice p n cn,.slice q m cm,Vi a14,Vi b0,Vi b1,Vi b2,Vi b3,Vi b4,Vi b5,Vi b6,Vi b7,Vi b8,Vi b9,Vi b10,Vi b11,.slice r n' dn,.slice s m' dm,Vi b14,Vi c0,Vi c1]):=Za (World.alloc_heap_new w _);have Hb:Hid (Bw w (w.alloc (.cells (Qag a0 a1 a2 a3 a4 a5 a6 a7 a8 a9 a10 a11 a14 b0 b1 b2 b3 b4 b5 b6 b7 b8 b9 b10 b11 b14 c0 c1 p q r s n cn m cm n' dn m' dm) 29))):=Za (Zb _ _)
 rcases(show 20<n∨(¬20<n∧20<m)∨(¬20<n∧¬20<m∧20<n')∨(¬20<n∧¬20<m∧¬20<n'∧20<m')∨(¬20<n∧¬20<m∧¬20<n'∧¬20<m') by omega) with c2|⟨c2,c3⟩|⟨c2,c3,c4⟩|⟨c2,c3,c4,c5⟩|⟨c2,c3,c4,c5⟩
 · have d0:decide ((20:Int)<(n:Int))=true:=decide_eq_true (by omega);have HE:Hid ((decide (20<n)||decide (20<m)||decide (20<n')||decide (20<m'))=true):=Za (by simp;omega);clear c2
   go_enter func11,ntmps11
   go_wp2_with fail;obtain⟨w0,hw0⟩:∃w0,w.alloc (.cells (Qag a0 a1 a2 a3 a4 a5 a6 a7 a8 a9 a10 a11 a14 b0 b1 b2 b3 b4 b5 b6 b7 b8 b9 b10 b11 b14 c0 c1 p q r s n cn m cm n' dn m' dm) 29)=w0:=⟨_,rfl⟩;rw[hw0] at Ha Hb⊢;clear hw0
   have k12:w0.cell? (Ad w.heap.size 12)=some (.slice p n cn):=by have:=Ha.out.range 12 _ rfl;rwa[Nat.zero_add] at this
   have k13:w0.cell? (Ad w.heap.size 13)=some (.slice q m cm):=by have:=Ha.out.range 13 _ rfl;rwa[Nat.zero_add] at this
   have k27:w0.cell? (Ad w.heap.size 27)=some (.slice r n' dn):=by have:=Ha.out.range 27 _ rfl;rwa[Nat.zero_add] at this
   have k28:w0.cell? (Ad w.heap.size 28)=some (.slice s m' dm):=by have:=Ha.out.range 28 _ rfl;rwa[Nat.zero_add] at this
   refine wp_loop_rounds 3 ?_;rw[rounds_succ];go_wp2_with fail;go_ret;exact⟨by rw[HE.out];rfl,Hb.out⟩
 · have d0:decide ((20:Int)<(n:Int))=false:=decide_eq_false (by omega);have d1:decide ((20:Int)<(m:Int))=true:=decide_eq_true (by omega);have HE:Hid ((decide (20<n)||decide (20<m)||decide (20<n')||decide (20<m'))=true):=Za (by simp;omega);clear c2 c3
   go_enter func11,ntmps11
   go_wp2_with fail;obtain⟨w0,hw0⟩:∃w0,w.alloc (.cells (Qag a0 a1 a2 a3 a4 a5 a6 a7 a8 a9 a10 a11 a14 b0 b1 b2 b3 b4 b5 b6 b7 b8 b9 b10 b11 b14 c0 c1 p q r s n cn m cm n' dn m' dm) 29)=w0:=⟨_,rfl⟩;rw[hw0] at Ha Hb⊢;clear hw0
   have k12:w0.cell? (Ad w.heap.size 12)=some (.slice p n cn):=by have:=Ha.out.range 12 _ rfl;rwa[Nat.zero_add] at this
   have k13:w0.cell? (Ad w.heap.size 13)=some (.slice q m cm):=by have:=Ha.out.range 13 _ rfl;rwa[Nat.zero_add] at this
   have k27:w0.cell? (Ad w.heap.size 27)=some (.slice r n' dn):=by have:=Ha.out.range 27 _ rfl;rwa[Nat.zero_add] at this
   have k28:w0.cell? (Ad w.heap.size 28)=some (.slice s m' dm):=by have:=Ha.out.range 28 _ rfl;rwa[Nat.zero_add] at this
   refine wp_loop_rounds 3 ?_;rw[rounds_succ];go_wp2_with fail;go_ret;exact⟨by rw[HE.out];rfl,Hb.out⟩
 · have d0:decide ((20:Int)<(n:Int))=false:=decide_eq_false (by omega);have d1:decide ((20:Int)<(m:Int))=false:=decide_eq_false (by omega);have d2:decide ((20:Int)<(n':Int))=true:=decide_eq_true (by omega);have HE:Hid ((decide (20<n)||decide (20<m)||decide (20<n')||decide (20<m'))=true):=Za (by simp;omega);clear c2 c3 c4
   go_enter func11,ntmps11
   go_wp2_with fail;obtain⟨w0,hw0⟩:∃w0,w.alloc (.cells (Qag a0 a1 a2 a3 a4 a5 a6 a7 a8 a9 a10 a11 a14 b0 b1 b2 b3 b4 b5 b6 b7 b8 b9 b10 b11 b14 c0 c1 p q r s n cn m cm n' dn m' dm) 29)=w0:=⟨_,rfl⟩;rw[hw0] at Ha Hb⊢;clear hw0
   have k12:w0.cell? (Ad w.heap.size 12)=some (.slice p n cn):=by have:=Ha.out.range 12 _ rfl;rwa[Nat.zero_add] at this
   have k13:w0.cell? (Ad w.heap.size 13)=some (.slice q m cm):=by have:=Ha.out.range 13 _ rfl;rwa[Nat.zero_add] at this
   have k27:w0.cell? (Ad w.heap.size 27)=some (.slice r n' dn):=by have:=Ha.out.range 27 _ rfl;rwa[Nat.zero_add] at this
   have k28:w0.cell? (Ad w.heap.size 28)=some (.slice s m' dm):=by have:=Ha.out.range 28 _ rfl;rwa[Nat.zero_add] at this
   refine wp_loop_rounds 3 ?_;rw[rounds_succ];go_wp2_with fail;rw[rounds_succ];go_wp2_with fail;go_ret;exact⟨by rw[HE.out];rfl,Hb.out⟩
 · have d0:decide ((20:Int)<(n:Int))=false:=decide_eq_false (by omega);have d1:decide ((20:Int)<(m:Int))=false:=decide_eq_false (by omega);have d2:decide ((20:Int)<(n':Int))=false:=decide_eq_false (by omega);have d3:decide ((20:Int)<(m':Int))=true:=decide_eq_true (by omega);have HE:Hid ((decide (20<n)||decide (20<m)||decide (20<n')||decide (20<m'))=true):=Za (by simp;omega);clear c2 c3 c4 c5
   go_enter func11,ntmps11
   go_wp2_with fail;obtain⟨w0,hw0⟩:∃w0,w.alloc (.cells (Qag a0 a1 a2 a3 a4 a5 a6 a7 a8 a9 a10 a11 a14 b0 b1 b2 b3 b4 b5 b6 b7 b8 b9 b10 b11 b14 c0 c1 p q r s n cn m cm n' dn m' dm) 29)=w0:=⟨_,rfl⟩;rw[hw0] at Ha Hb⊢;clear hw0
   have k12:w0.cell? (Ad w.heap.size 12)=some (.slice p n cn):=by have:=Ha.out.range 12 _ rfl;rwa[Nat.zero_add] at this
   have k13:w0.cell? (Ad w.heap.size 13)=some (.slice q m cm):=by have:=Ha.out.range 13 _ rfl;rwa[Nat.zero_add] at this
   have k27:w0.cell? (Ad w.heap.size 27)=some (.slice r n' dn):=by have:=Ha.out.range 27 _ rfl;rwa[Nat.zero_add] at this
   have k28:w0.cell? (Ad w.heap.size 28)=some (.slice s m' dm):=by have:=Ha.out.range 28 _ rfl;rwa[Nat.zero_add] at this
   refine wp_loop_rounds 3 ?_;rw[rounds_succ];go_wp2_with fail;rw[rounds_succ];go_wp2_with fail;go_ret;exact⟨by rw[HE.out];rfl,Hb.out⟩
 · have d0:decide ((20:Int)<(n:Int))=false:=decide_eq_false (by omega);have d1:decide ((20:Int)<(m:Int))=false:=decide_eq_false (by omega);have d2:decide ((20:Int)<(n':Int))=false:=decide_eq_false (by omega);have d3:decide ((20:Int)<(m':Int))=false:=decide_eq_false (by omega);have HE:Hid ((decide (20<n)||decide (20<m)||decide (20<n')||decide (20<m'))=false):=Za (by simp;omega);clear c2 c3 c4 c5
   go_enter func11,ntmps11
   go_wp2_with fail;obtain⟨w0,hw0⟩:∃w0,w.alloc (.cells (Qag a0 a1 a2 a3 a4 a5 a6 a7 a8 a9 a10 a11 a14 b0 b1 b2 b3 b4 b5 b6 b7 b8 b9 b10 b11 b14 c0 c1 p q r s n cn m cm n' dn m' dm) 29)=w0:=⟨_,rfl⟩;rw[hw0] at Ha Hb⊢;clear hw0
   have k12:w0.cell? (Ad w.heap.size 12)=some (.slice p n cn):=by have:=Ha.out.range 12 _ rfl;rwa[Nat.zero_add] at this
   have k13:w0.cell? (Ad w.heap.size 13)=some (.slice q m cm):=by have:=Ha.out.range 13 _ rfl;rwa[Nat.zero_add] at this
   have k27:w0.cell? (Ad w.heap.size 27)=some (.slice r n' dn):=by have:=Ha.out.range 27 _ rfl;rwa[Nat.zero_add] at this
   have k28:w0.cell? (Ad w.heap.size 28)=some (.slice s m' dm):=by have:=Ha.out.range 28 _ rfl;rwa[Nat.zero_add] at this
   refine wp_loop_rounds 3 ?_;rw[rounds_succ];go_wp2_with fail;rw[rounds_succ];go_wp2_with fail;rw[rounds_succ];go_wp2_with fail;go_ret;exact⟨by rw[HE.out];rfl,Hb.out⟩
end Go.Proofs.YtnfdfiholcelaaaGreatDoor
