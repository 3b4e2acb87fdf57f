import Derived.Maps.AppendAt
import Derived.Shelf.SlIter.Collect
import Derived.Test.YtnepnnkdgejheaaGreatDoorKp22
set_option maxRecDepth 100000
set_option maxHeartbeats 20000000
namespace Go.Proofs.YtnepnnkdgejheaaGreatDoor
open Go.RowKit Plain Tryz
variable {B base e k n size:Nat}{cs xs:List Value}{u u':V6}{v:Value}
theorem F4{L H N P M R:Int}(h:grE L H N P M R=0):0<=N/\N<=1000:=by
 have:grB L H N P M R=true:=by
  unfold grE at h
  split at h
  . assumption
  . omega
 have g:=DK this;exact⟨g.n0,g.n1⟩
def eAx(a0 a1 a2 a3 a4 a5 a6 a7 a8 a9 a10 a11 a14:Int)(al zl:V9):Nat->Int
 |0=>rgE a4 a3
 |1=>Ya a8 a9
 |2=>arE a5 a6 a7 a10
 |3=>grE a0 a1 a2 (a3+a7) ((a4-1)*a5) ((a4-1)*a6)
 |4=>ruE a0 a1 a11 a14 ((a4-1)*a5) al zl
 |_=>fmE a8 a2 a0 a1
def eCr(a0 a1 a2 a3 a4 a5 a6 a7 a8 a9 a10 a11 a14:Int)(al zl:V9)(h y j e w H Z Y X Q ha G hc:Int)(R T:V9)(c0 c1:Int)(k:Nat):Int:=if k<6 then eAx a0 a1 a2 a3 a4 a5 a6 a7 a8 a9 a10 a11 a14 al zl k else if k<12 then eAx h y j e w H Z Y X Q ha G hc R T (k-6) else Ya c0 c1
def gCr(k:Nat):Nat:=if k<12 then[144,146,148,151,154,157].getD (k%6) 0 else 100
def Jk8(h y B:Nat)(k:Nat):Array Value:=if k<6 then#[Ve h 0] else if k<12 then#[Ve y 0] else#[Ve B 0]
def AxH(u:V6)(B:Nat)(a0 a1 a2 a3 a4 a5 a6 a7 a8 a9 a10 a11 a14:Int)(p q:V8)(n m cn cm:Nat):Prop:=u.heap[B]?=some (.cells (Qai a0 a1 a2 a3 a4 a5 a6 a7 a8 a9 a10 a11 a14 p q n cn m cm) 38 (0,0))
section
variable {u u' : World} {B : Nat} {a0 a1 a2 a3 a4 a5 a6 a7 a8 a9 a10 a11 a14 : Int} {p q : Option Addr} {n m cn cm : Nat}
theorem AxH.axb(h:AxH u B a0 a1 a2 a3 a4 a5 a6 a7 a8 a9 a10 a11 a14 p q n m cn cm):AxB u B a0 a1 a2 a3 a4 a5 a6 a7 a8 a9 a10 a11 a14 p q n m cn cm:=by
 unfold AxH at h
 refine⟨?_,?_,?_,?_,?_,?_,?_,?_,?_,?_,?_,?_,?_,?_,?_⟩<;>simp[World.cell?,h]
theorem AxH.lt(h:AxH u B a0 a1 a2 a3 a4 a5 a6 a7 a8 a9 a10 a11 a14 p q n m cn cm):B<u.heap.size:=(Array.getElem?_eq_some_iff.1 h).1
theorem AxH.lq(h:AxH u B a0 a1 a2 a3 a4 a5 a6 a7 a8 a9 a10 a11 a14 p q n m cn cm)(y:Bw u u'):AxH u' B a0 a1 a2 a3 a4 a5 a6 a7 a8 a9 a10 a11 a14 p q n m cn cm:=(y.block B h.lt).trans h
theorem AxH.grown(h:AxH u B a0 a1 a2 a3 a4 a5 a6 a7 a8 a9 a10 a11 a14 p q n m cn cm)(ho:u.ownsRow base 186 1 v k xs)(y:u.grownBy u' v.ownBlock):AxH u' B a0 a1 a2 a3 a4 a5 a6 a7 a8 a9 a10 a11 a14 p q n m cn cm:=by
 refine(y.block B h.lt ?_).trans h
 rcases ownsRow_ne_a ho h (fun ha e=>absurd (Obj.cells.inj e).2.1 (by decide)) with e|e
 . rw[e];simp
 . exact fun j=>e j.symm
end
def CrH(u:V6)(B:Nat)(h:List Value):Prop:=u.heap[B]?=some (.cells h.toArray 41 (0,0))
theorem CrH.lt(h:CrH u B cs):B<u.heap.size:=(Array.getElem?_eq_some_iff.1 h).1
theorem CrH.lq(h:CrH u B cs)(y:Bw u u'):CrH u' B cs:=(y.block B h.lt).trans h
theorem CrH.range(h:CrH u B cs):u.rangeAt B 0 cs:=fun j v y=>by
 unfold CrH at h
 simp only[World.cell?,h,Nat.zero_add];simp only[Option.isSome_none,Bool.false_eq_true,if_false]
 simpa using y
theorem CrH.grown(h:CrH u B cs)(ho:u.ownsRow base 186 1 v k xs)(y:u.grownBy u' v.ownBlock):CrH u' B cs:=by
 refine(y.block B h.lt ?_).trans h
 rcases ownsRow_ne_a ho h (fun ha e=>absurd (Obj.cells.inj e).2.1 (by decide)) with e|e
 . rw[e];simp
 . exact fun j=>e j.symm
theorem JM(l:List Value)(h:∀v∈l,∃g y,v=.func (.func g) #[] y):∀v∈l,v.oneCell'=true:=fun v j=>by obtain⟨g,y,rfl⟩:=h v j;rfl
theorem Zkm(a0 a1 a2 a3 a4 a5 a6 a7 a8 a9 a10 a11 a14:Int)(p q:V8)(n m cn cm:Nat)(w:V6):Va 99 #[.agg (Qai a0 a1 a2 a3 a4 a5 a6 a7 a8 a9 a10 a11 a14 p q n cn m cm)] w fun e w'=>∃B0 G,e=.returned (Vf G 0 6 6)/\AxH w' B0 a0 a1 a2 a3 a4 a5 a6 a7 a8 a9 a10 a11 a14 p q n m cn cm/\(∀j v,([.func (.func 144) #[] #[Ve B0 0],.func (.func 146) #[] #[Ve B0 0],.func (.func 148) #[] #[Ve B0 0],.func (.func 151) #[] #[Ve B0 0],.func (.func 154) #[] #[Ve B0 0],.func (.func 157) #[] #[Ve B0 0]]:List Value)[j]?=some v->w'.cell? ((⟨G,0,none⟩:Addr).add j)=some v)/\Bw w w':=by
 refine Sm (JL a0 a1 a2 a3 a4 a5 a6 a7 a8 a9 a10 a11 a14 p q n m cn cm w) ?_;refine⟨w.heap.size,w.heap.size+1,rfl,?_,?_,Zc Vc Vc⟩
 . exact(Below.heap_alloc _ _ _ (by simp)).trans (World.alloc_heap_new w _)
 . intro j v y;rw[Addr.add_lit];have h:=World.alloc_heap_new (w.alloc (.cells (Qai a0 a1 a2 a3 a4 a5 a6 a7 a8 a9 a10 a11 a14 p q n cn m cm) 38)) (.cells #[.func (.func 144) #[] #[Ve w.heap.size 0],.func (.func 146) #[] #[Ve w.heap.size 0],.func (.func 148) #[] #[Ve w.heap.size 0],.func (.func 151) #[] #[Ve w.heap.size 0],.func (.func 154) #[] #[Ve w.heap.size 0],.func (.func 157) #[] #[Ve w.heap.size 0]] 186);rw[World.size_alloc] at h
   show World.cell? _ _=_
   simp only[World.cell?,h,Nat.zero_add];simp only[Option.isSome_none,Bool.false_eq_true,if_false]
   simpa using y
theorem DO(h:Nat)(w:V6):w.ownsRow h 186 1 (.slice none 0 0) 0 []:=⟨rfl,.inl ⟨rfl,rfl⟩⟩
theorem Jrd:(prog.info? 186).map (fun i=>(i.zero,i.size,i.bytes))=some (some Value.nilFunc,1,8):=by kernel_rfl
theorem JN:(prog.info? 39).map (·.size)=some 30:=by kernel_rfl
theorem Jnx(h y j e H Z Y X Q G y10 y11 y12 y13 y14 y15 y16 y17 y18 y19 y20 y21 y22 y23 y24 y25 y26 y27 y28 y29:Value)(w:V6):(Instr.index 39 (.agg #[h,y,j,e,H,Z,Y,X,Q,G,y10,y11,y12,y13,y14,y15,y16,y17,y18,y19,y20,y21,y22,y23,y24,y25,y26,y27,y28,y29]) (Vi 0)).run prog w=.ok (.agg #[h,y,j,e,H,Z,Y,X,Q,G,y10,y11,y12,y13,y14]) w:=by kernel_rfl
theorem Jny(h y j e H Z Y X Q G y10 y11 y12 y13 y14 y15 y16 y17 y18 y19 y20 y21 y22 y23 y24 y25 y26 y27 y28 y29:Value)(w:V6):(Instr.index 39 (.agg #[h,y,j,e,H,Z,Y,X,Q,G,y10,y11,y12,y13,y14,y15,y16,y17,y18,y19,y20,y21,y22,y23,y24,y25,y26,y27,y28,y29]) (Vi 1)).run prog w=.ok (.agg #[y15,y16,y17,y18,y19,y20,y21,y22,y23,y24,y25,y26,y27,y28,y29]) w:=by kernel_rfl
theorem Ml(h:u.rangeAt B 0 cs)(k:Nat):u.rangeAt B k ((cs.drop k).take n):=fun j v y=>by
 rw[List.getElem?_take] at y
 split at y
 . have:=h (k+j) v (by simpa using y)
   simpa using this
 . cases y
theorem OM(a0 a1 a2 a3 a4 a5 a6 a7 a8 a9 a10 a11 a14:Int)(p q:V8)(al zl:V9)(cn cm:Nat)(Y X Q G R T J K M N ha P hc:Int)(r s:V8)(e Z:V9)(D E:Nat)(c0 c1:Int)(A W B:Nat)(w x:V6)(hd:Bw w x)(hA:AxH x A a0 a1 a2 a3 a4 a5 a6 a7 a8 a9 a10 a11 a14 p q al.length zl.length cn cm)(hB:AxH x W Y X Q G R T J K M N ha P hc r s e.length Z.length D E)(hC:CrH x B [Vi a0,Vi a1,Vi a2,Vi a3,Vi a4,Vi a5,Vi a6,Vi a7,Vi a8,Vi a9,Vi a10,Vi a11,.slice p al.length cn,.slice q zl.length cm,Vi a14,Vi Y,Vi X,Vi Q,Vi G,Vi R,Vi T,Vi J,Vi K,Vi M,Vi N,Vi ha,Vi P,.slice r e.length D,.slice s Z.length E,Vi hc,Vi c0,Vi c1])(he:al.length<=9223372036854775807/\zl.length<=9223372036854775807/\al.length<=cn/\Lst w p al/\Lst w q zl)(hf:e.length<=9223372036854775807/\Z.length<=9223372036854775807/\e.length<=D/\Lst w r e/\Lst w s Z):
 ∀k,k<13->(∀j,j<k->eCr a0 a1 a2 a3 a4 a5 a6 a7 a8 a9 a10 a11 a14 al zl Y X Q G R T J K M N ha P hc e Z c0 c1 j=0)->∀u,Bw x u->Va (gCr k) (Jk8 A W B k) u fun r u'=>r=.returned (A8 (eCr a0 a1 a2 a3 a4 a5 a6 a7 a8 a9 a10 a11 a14 al zl Y X Q G R T J K M N ha P hc e Z c0 c1 k))/\Bw u u':=by
 have F:=Za hd;have O:=Za he;have U:=Za hf;have I:Hd (∀u,Bw x u->AxB u A a0 a1 a2 a3 a4 a5 a6 a7 a8 a9 a10 a11 a14 p q al.length zl.length cn cm):=Za (fun u y=>(hA.lq y).axb);have L:Hd (∀u,Bw x u->AxB u W Y X Q G R T J K M N ha P hc r s e.length Z.length D E):=Za (fun u y=>(hB.lq y).axb);intro k hk h u y
 rcases(show k=0\/k=1\/k=2\/k=3\/k=4\/k=5\/k=6\/k=7\/k=8\/k=9\/k=10\/k=11\/k=12 by omega) with rfl|rfl|rfl|rfl|rfl|rfl|rfl|rfl|rfl|rfl|rfl|rfl|rfl
 . exact SE a0 a1 a2 a3 a4 a5 a6 a7 a8 a9 a10 a11 a14 p q al.length zl.length cn cm _ u (I.o u y)
 . exact SF a0 a1 a2 a3 a4 a5 a6 a7 a8 a9 a10 a11 a14 p q al.length zl.length cn cm _ u (I.o u y)
 . exact SG a0 a1 a2 a3 a4 a5 a6 a7 a8 a9 a10 a11 a14 p q al.length zl.length cn cm _ u (I.o u y)
 . have h:=h;have C:=Uv (h 0 (by omega));have H:=Yh (Us (h 2 (by omega)));exact SH a0 a1 a2 a3 a4 a5 a6 a7 a8 a9 a10 a11 a14 p q al.length zl.length cn cm C.1 H.1 C.2 ⟨H.2.2.1.1,by omega⟩ ⟨H.2.1.1,by omega⟩ _ u (I.o u y)
 . have h:=h;have C:=Uv (h 0 (by omega));have H:=Yh (Us (h 2 (by omega)));exact SI a0 a1 a2 a3 a4 a5 a6 a7 a8 a9 a10 a11 a14 p q al zl cn cm C.1 H.1 C.2 ⟨H.2.2.1.1,by omega⟩ ⟨H.2.1.1,by omega⟩ O.o.1 O.o.2.1 O.o.2.2.1 _ u (I.o u y) (O.o.2.2.2.1.lq (F.o.trans (y.mono F.o.size))) (O.o.2.2.2.2.lq (F.o.trans (y.mono F.o.size)))
 . have h:=h;have z3:=F4 (h 3 (by omega));exact SJ a0 a1 a2 a3 a4 a5 a6 a7 a8 a9 a10 a11 a14 p q al.length zl.length cn cm z3 _ u (I.o u y)
 . exact SE Y X Q G R T J K M N ha P hc r s e.length Z.length D E _ u (L.o u y)
 . exact SF Y X Q G R T J K M N ha P hc r s e.length Z.length D E _ u (L.o u y)
 . exact SG Y X Q G R T J K M N ha P hc r s e.length Z.length D E _ u (L.o u y)
 . have h:=h;have C:=Uv (h 6 (by omega));have H:=Yh (Us (h 8 (by omega)));exact SH Y X Q G R T J K M N ha P hc r s e.length Z.length D E C.1 H.1 C.2 ⟨H.2.2.1.1,by omega⟩ ⟨H.2.1.1,by omega⟩ _ u (L.o u y)
 . have h:=h;have C:=Uv (h 6 (by omega));have H:=Yh (Us (h 8 (by omega)));exact SI Y X Q G R T J K M N ha P hc r s e Z D E C.1 H.1 C.2 ⟨H.2.2.1.1,by omega⟩ ⟨H.2.1.1,by omega⟩ U.o.1 U.o.2.1 U.o.2.2.1 _ u (L.o u y) (U.o.2.2.2.1.lq (F.o.trans (y.mono F.o.size))) (U.o.2.2.2.2.lq (F.o.trans (y.mono F.o.size)))
 . have h:=h;have z3:=F4 (h 9 (by omega));exact SJ Y X Q G R T J K M N ha P hc r s e.length Z.length D E z3 _ u (L.o u y)
 . exact WO (Vi a0) (Vi a1) (Vi a2) (Vi a3) (Vi a4) (Vi a5) (Vi a6) (Vi a7) (Vi a8) (Vi a9) (Vi a10) (Vi a11) (.slice p al.length cn) (.slice q zl.length cm) (Vi a14) (Vi Y) (Vi X) (Vi Q) (Vi G) (Vi R) (Vi T) (Vi J) (Vi K) (Vi M) (Vi N) (Vi ha) (Vi P) (.slice r e.length D) (.slice s Z.length E) (Vi hc) c0 c1 B u (LL hC.range y)
def ZS(w:V6)(a:V8)(n:Nat):Prop:=n=0\/∃b off,a=some (Ad b off)/\∀k,k<n->V2 w b (off+k*3) 0/\V2 w b (off+k*3+1) 0/\Kc w b (off+k*3+2) (.bool false)
theorem ZS.lq{w w':V6}{a:V8}(h:ZS w a n)(y:Bw w w'):ZS w' a n:=by
 rcases h with h|⟨b,off,h,hc⟩
 . exact .inl h
 . exact .inr ⟨b,off,h,fun k hk=>⟨cell_later y (hc k hk).1,cell_later y (hc k hk).2.1,cell_later y (hc k hk).2.2⟩⟩
theorem Um(h:u.ownsRow base e size v n xs)(j:Bw u u'):u'.ownsRow base e size v n xs:=by
 obtain⟨hl,h|⟨g,cap,ha,m,w,y,H⟩⟩:=h
 . exact⟨hl,.inl h⟩
 . exact⟨hl,.inr ⟨g,cap,ha,m,w,(j.block g (Array.getElem?_eq_some_iff.1 y).1).trans y,H⟩⟩
theorem own_lt(h:u.ownsRow base e size v n xs):∀k,v.ownBlock=some k->base<=k:=by
 obtain⟨hl,⟨rfl,_⟩|⟨g,cap,ha,rfl,y,_⟩⟩:=h
 . intro k e;cases e
 . intro k e;cases e;exact y
theorem Jrk(h y B k:Nat)(hk:k<13):(([.func (.func 144) #[] #[Ve h 0],.func (.func 146) #[] #[Ve h 0],.func (.func 148) #[] #[Ve h 0],.func (.func 151) #[] #[Ve h 0],.func (.func 154) #[] #[Ve h 0],.func (.func 157) #[] #[Ve h 0]]++[.func (.func 144) #[] #[Ve y 0],.func (.func 146) #[] #[Ve y 0],.func (.func 148) #[] #[Ve y 0],.func (.func 151) #[] #[Ve y 0],.func (.func 154) #[] #[Ve y 0],.func (.func 157) #[] #[Ve y 0]]++[.func (.func 100) #[] #[Ve B 0]]):List Value)[k]?=some (.func (.func (gCr k)) #[] (Jk8 h y B k)):=by
 rcases(show k=0\/k=1\/k=2\/k=3\/k=4\/k=5\/k=6\/k=7\/k=8\/k=9\/k=10\/k=11\/k=12 by omega) with rfl|rfl|rfl|rfl|rfl|rfl|rfl|rfl|rfl|rfl|rfl|rfl|rfl<;>rfl
theorem Jpa(k:Nat)(hk:k<13)(args:Array Value)(w:V6):(callFunc (gCr k) args).run prog w=.ok (.enter (gCr k) args) w:=by
 rcases(show k=0\/k=1\/k=2\/k=3\/k=4\/k=5\/k=6\/k=7\/k=8\/k=9\/k=10\/k=11\/k=12 by omega) with rfl|rfl|rfl|rfl|rfl|rfl|rfl|rfl|rfl|rfl|rfl|rfl|rfl<;>kernel_rfl
theorem Jrl{B0 B1:Nat}(h:u.ownsRow base 186 1 v 13 ([.func (.func 144) #[] #[Ve B0 0],.func (.func 146) #[] #[Ve B0 0],.func (.func 148) #[] #[Ve B0 0],.func (.func 151) #[] #[Ve B0 0],.func (.func 154) #[] #[Ve B0 0],.func (.func 157) #[] #[Ve B0 0]]++[.func (.func 144) #[] #[Ve B1 0],.func (.func 146) #[] #[Ve B1 0],.func (.func 148) #[] #[Ve B1 0],.func (.func 151) #[] #[Ve B1 0],.func (.func 154) #[] #[Ve B1 0],.func (.func 157) #[] #[Ve B1 0]]++[.func (.func 100) #[] #[Ve B 0]])):∃g cap,v=Vf g 0 13 cap/\LH u (some (Ad g 0)) 13 gCr (Jk8 B0 B1 B):=by
 obtain⟨hl,⟨_,h⟩|⟨g,cap,ha,rfl,j,y,h1,h2,h3,h4⟩⟩:=h
 . cases h
 . refine⟨g,cap,rfl,.inr ⟨g,0,rfl,fun k hk=>?_⟩⟩;have:=Jrk B0 B1 B k hk;rw[<-h4,List.getElem?_take] at this
   show World.cell? _ _=_
   simp only[World.cell?,y,Nat.zero_add];simp only[Option.isSome_none,Bool.false_eq_true,if_false];rw[if_pos (by omega)] at this
   simpa using this
theorem Jhz:∃i,prog.info? 186=some i/\i.zero=some Value.nilFunc/\i.size=1/\i.bytes=8:=by
 have h:=Jrd
 cases hh:prog.info? 186 with
 |none=>rw[hh] at h;cases h
 |some i=>
  rw[hh] at h;simp only[Option.map_some,Option.some.injEq,Prod.mk.injEq] at h;exact⟨i,rfl,h.1,h.2.1,h.2.2⟩
theorem Zjb(j m H Z Y X Q G R T ha J hc:Int)(p q:V8)(al zl:V9)(cn cm:Nat)(K M N P D C E F I L hd O U:Int)(r s:V8)(h y:V9)(A B:Nat)(c0 c1:Int)(w:V6)(hg:GV w)(hs:al.length<=9223372036854775807/\zl.length<=9223372036854775807/\al.length<=cn/\Lst w p al/\Lst w q zl)(ht:h.length<=9223372036854775807/\y.length<=9223372036854775807/\h.length<=A/\Lst w r h/\Lst w s y):
 Va 56 #[.agg (Qaf j m H Z Y X Q G R T ha J hc K M N P D C E F I L hd O U c0 c1 p q r s al zl h y cn cm A B)] w (Rt w (A8 (AA (eCr j m H Z Y X Q G R T ha J hc al zl K M N P D C E F I L hd O U h y c0 c1) 13))):=by
 have HG:=Za hg;have Hj:=Za hs;have Hk:=Za ht;have Hi:Hd (CrH (w.alloc (.cells (Qaf j m H Z Y X Q G R T ha J hc K M N P D C E F I L hd O U c0 c1 p q r s al zl h y cn cm A B) 41)) w.heap.size [Vi j,Vi m,Vi H,Vi Z,Vi Y,Vi X,Vi Q,Vi G,Vi R,Vi T,Vi ha,Vi J,.slice p al.length cn,.slice q zl.length cm,Vi hc,Vi K,Vi M,Vi N,Vi P,Vi D,Vi C,Vi E,Vi F,Vi I,Vi L,Vi hd,Vi O,.slice r h.length A,.slice s y.length B,Vi U,Vi c0,Vi c1]):=Za (World.alloc_heap_new w _);have HR:Hd ((w.alloc (.cells (Qaf j m H Z Y X Q G R T ha J hc K M N P D C E F I L hd O U c0 c1 p q r s al zl h y cn cm A B) 41)).rangeAt w.heap.size 0 [Vi j,Vi m,Vi H,Vi Z,Vi Y,Vi X,Vi Q,Vi G,Vi R,Vi T,Vi ha,Vi J,.slice p al.length cn,.slice q zl.length cm,Vi hc,Vi K,Vi M,Vi N,Vi P,Vi D,Vi C,Vi E,Vi F,Vi I,Vi L,Vi hd,Vi O,.slice r h.length A,.slice s y.length B,Vi U]):=Za (Ml (n:=30) Hi.o.range 0);have Hl:Hd (Bw w (w.alloc (.cells (Qaf j m H Z Y X Q G R T ha J hc K M N P D C E F I L hd O U c0 c1 p q r s al zl h y cn cm A B) 41))):=Za Vc;have hC:=Jnx (Vi j) (Vi m) (Vi H) (Vi Z) (Vi Y) (Vi X) (Vi Q) (Vi G) (Vi R) (Vi T) (Vi ha) (Vi J) (.slice p al.length cn) (.slice q zl.length cm) (Vi hc) (Vi K) (Vi M) (Vi N) (Vi P) (Vi D) (Vi C) (Vi E) (Vi F) (Vi I) (Vi L) (Vi hd) (Vi O) (.slice r h.length A) (.slice s y.length B) (Vi U);have hD:=Jny (Vi j) (Vi m) (Vi H) (Vi Z) (Vi Y) (Vi X) (Vi Q) (Vi G) (Vi R) (Vi T) (Vi ha) (Vi J) (.slice p al.length cn) (.slice q zl.length cm) (Vi hc) (Vi K) (Vi M) (Vi N) (Vi P) (Vi D) (Vi C) (Vi E) (Vi F) (Vi I) (Vi L) (Vi hd) (Vi O) (.slice r h.length A) (.slice s y.length B) (Vi U)
 have Hm:=Za (OM j m H Z Y X Q G R T ha J hc p q al zl cn cm K M N P D C E F I L hd O U r s h y A B c0 c1);obtain⟨i0,hi,ho,hp,hq⟩:=Jhz;clear hg hs ht
 go_enter func56,ntmps56
 go_wp2_with (first
  |(refine Lm 39 (.tmp 6) rfl w.heap.size 0 [Vi j,Vi m,Vi H,Vi Z,Vi Y,Vi X,Vi Q,Vi G,Vi R,Vi T,Vi ha,Vi J,.slice p al.length cn,.slice q zl.length cm,Vi hc,Vi K,Vi M,Vi N,Vi P,Vi D,Vi C,Vi E,Vi F,Vi I,Vi L,Vi hd,Vi O,.slice r h.length A,.slice s y.length B,Vi U] HR.o underlying39 JN ?_))
 refine wp_loop_rounds 3 ?_;rw[rounds_succ]
 go_wp2_with (first
  |(go_at_call 99;refine(Zkm j m H Z Y X Q G R T ha J hc p q al.length zl.length cn cm _).mono ?_;rintro e w1 ⟨W,G0,rfl,hA,hh,hr⟩;have Hn:=Za hA;have Ho:=Za hh;have Hc:=Za (Zc (Zc Hl.o Vc) hr);have Hp:=Za ((Hi.o.lq Vc).lq hr);clear hA hh hr)
  |(at_builtin;refine wpList_append_own _ rfl _ _ 182 rfl w.heap.size 186 i0 Value.nilFunc 1 8 underlying182 hi ho hp hq rfl (by decide) _ _ _ rfl (DO _ _) ⟨G0,0,none⟩ 6 6 [.func (.func 144) #[] #[Ve W 0],.func (.func 146) #[] #[Ve W 0],.func (.func 148) #[] #[Ve W 0],.func (.func 151) #[] #[Ve W 0],.func (.func 154) #[] #[Ve W 0],.func (.func 157) #[] #[Ve W 0]] rfl rfl Ho.o (JM _ (by simp)) (by unfold maxLen;omega) (by omega) Hc.o.size ?_;intro v1 w2 hu hn hx;have Hq:=Za hu;have Hr:=Za (Hn.o.grown (DO w.heap.size w1) hn);have Hs:=Za (Hp.o.grown (DO w.heap.size w1) hn);have Ht:=Za (Hc.o.grown hn Hc.o.size (own_lt (DO w.heap.size w1)));clear hu hn hx))
 rw[rounds_succ]
 go_wp2_with (first
  |(go_at_call 99;refine(Zkm K M N P D C E F I L hd O U r s h.length y.length A B _).mono ?_;rintro e w3 ⟨B1,G1,rfl,hA,hh,hj⟩;have Hu:=Za hA;have Hv:=Za hh;have Hf:=Za (Zc (Zc Ht.o Vc) hj);have Hw:=Za ((Hs.o.lq Vc).lq hj);have Hx:=Za ((Hr.o.lq Vc).lq hj);have Ha:=Za (Um (Um Hq.o Vc) hj);clear hA hh hj)
  |(at_builtin;refine wpList_append_own _ rfl _ _ 182 rfl w.heap.size 186 i0 Value.nilFunc 1 8 underlying182 hi ho hp hq rfl (by decide) _ _ _ rfl (Ha.o) ⟨G1,0,none⟩ 6 6 [.func (.func 144) #[] #[Ve B1 0],.func (.func 146) #[] #[Ve B1 0],.func (.func 148) #[] #[Ve B1 0],.func (.func 151) #[] #[Ve B1 0],.func (.func 154) #[] #[Ve B1 0],.func (.func 157) #[] #[Ve B1 0]] rfl rfl Hv.o (JM _ (by simp)) (by unfold maxLen;omega) (by omega) Hf.o.size ?_;intro v2 w4 hv hk hy;have Hb:=Za hv;have Hy:=Za (Hx.o.grown Ha.o hk);have Hz:=Za (Hu.o.grown Ha.o hk);have HA:=Za (Hw.o.grown Ha.o hk);have Hg:=Za (Hf.o.grown hk Hf.o.size (own_lt Ha.o));clear hv hk hy))
 rw[rounds_succ]
 go_wp2_with (first
  |(at_builtin;refine wpList_append_own _ rfl _ _ 182 rfl w.heap.size 186 i0 Value.nilFunc 1 8 underlying182 hi ho hp hq rfl (by decide) _ _ _ rfl (Um Hb.o Vc) ⟨w4.heap.size,0,none⟩ 1 1 [.func (.func 100) #[] #[Ve w.heap.size 0]] rfl rfl (cell_one_new _ _ _) (JM _ (by simp)) (by unfold maxLen;omega) (by omega) (Zc Hg.o Vc).size ?_;intro v3 w6 hw hl hz;have HB:=Za ((Hy.o.lq Vc).grown (Um Hb.o Vc) hl);have HC:=Za ((Hz.o.lq Vc).grown (Um Hb.o Vc) hl);have HD:=Za ((HA.o.lq Vc).grown (Um Hb.o Vc) hl);have Hh:=Za ((Zc Hg.o Vc).grown hl (Zc Hg.o Vc).size (own_lt Hb.o));obtain⟨g9,cap9,rfl,hm⟩:=Jrl hw;have HE:=Za hm;clear hw hl hz hm)
  |(go_at_call 103;refine Sb (Ziz (some (Ad g9 0)) 13 cap9 gCr (Jk8 W B1 w.heap.size) (eCr j m H Z Y X Q G R T ha J hc al zl K M N P D C E F I L hd O U h y c0 c1) (by decide) w6 HE.o (HG.o.lq Hh.o) Jpa (Hm.o W B1 w.heap.size w w6 Hh.o HB.o HC.o HD.o Hj.o Hk.o)) fun w7 hB=>?_))
 go_ret;exact⟨rfl,Zc Hh.o hB⟩
end Go.Proofs.YtnepnnkdgejheaaGreatDoor
