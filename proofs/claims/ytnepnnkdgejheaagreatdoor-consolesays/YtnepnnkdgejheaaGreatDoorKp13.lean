import Derived.Sort.LotA
import Derived.Deep.WholeRow
import Derived.RangeFuncRecord
import Derived.Laws.Rows
import Derived.Test.YtnepnnkdgejheaaGreatDoorKp03
set_option maxRecDepth 100000
set_option maxHeartbeats 20000000
namespace Go.Proofs.YtnepnnkdgejheaaGreatDoor.Plain
set_option linter.unusedVariables false
abbrev Rd:=Int×Int×Int×Int
def rlt(x y:Rd):Bool:=decide (x.1<y.1)||(decide (x.1=y.1)&&decide (x.2.1<y.2.1))
def req(x y:Rd):Bool:=decide (x.1=y.1)&&decide (x.2.1=y.2.1)
theorem Wg{x y:Rd}:rlt x y=true↔x.1<y.1\/(x.1=y.1/\x.2.1<y.2.1):=by simp[rlt]
theorem DC{x y:Rd}:req x y=true↔x.1=y.1/\x.2.1=y.2.1:=by simp[req]
theorem BZ{x y:Rd}:rlt x y=false↔¬(x.1<y.1\/(x.1=y.1/\x.2.1<y.2.1)):=by rw[<-Wg];simp
theorem EW{x y:Rd}:req x y=false↔¬(x.1=y.1/\x.2.1=y.2.1):=by rw[<-DC];simp
theorem EX{x y z:Rd}(h:rlt x y=true)(k:rlt y z=true):rlt x z=true:=by
 rw[Wg] at *;omega
theorem J4(x:Rd):rlt x x=false:=by rw[BZ];omega
theorem MJ{y r:Rd}(h:rlt y r=false)(k:req y r=false):rlt r y=true:=by
 rw[BZ] at h;rw[EW] at k;rw[Wg];omega
theorem Jac{y r z:Rd}(k:req y r=true)(h:rlt y z=true):rlt r z=true:=by
 rw[DC] at k;rw[Wg] at *;omega
theorem Jol{x y:Rd}(h:rlt x y=true):req x y=false:=by rw[Wg] at h;rw[EW];omega
theorem Jad{x y:Rd}(h:rlt x y=true):req y x=false:=by rw[Wg] at h;rw[EW];omega
def ins(r:Rd):List Rd->List Rd
 |[]=>[r]
 |y::t=>if rlt y r=true then y::ins r t else if req y r=true then r::t else r::y::t
theorem O6{r z:Rd}:∀{l:List Rd},z∈ins r l->z=r\/z∈l
 |[],h=>by simp[ins] at h;exact .inl h
 |y::t,h=>by
  unfold ins at h
  split at h
  . rcases List.mem_cons.1 h with rfl|h
    . exact .inr (by simp)
    . rcases O6 h with h|h
      . exact .inl h
      . exact .inr (by simp[h])
  . split at h
    . rcases List.mem_cons.1 h with rfl|h
      . exact .inl rfl
      . exact .inr (by simp[h])
    . rcases List.mem_cons.1 h with rfl|h
      . exact .inl rfl
      . exact .inr h
theorem J5(r:Rd):∀{l:List Rd},l.Pairwise (fun x y=>rlt x y=true)->(ins r l).Pairwise (fun x y=>rlt x y=true)
 |[],_=>by simp[ins]
 |y::t,h=>by
  obtain⟨h1,h2⟩:=List.pairwise_cons.1 h
  unfold ins
  split
  . rename_i hy
    refine List.pairwise_cons.2 ⟨fun z j=>?_,J5 r h2⟩
    rcases O6 j with rfl|j
    . exact hy
    . exact h1 z j
  . rename_i hy
    split
    . rename_i hq
      exact List.pairwise_cons.2 ⟨fun z j=>Jac hq (h1 z j),h2⟩
    . rename_i hq
      have m:rlt r y=true:=MJ (by simpa using hy) (by simpa using hq);refine List.pairwise_cons.2 ⟨fun z j=>?_,h⟩
      rcases List.mem_cons.1 j with rfl|j
      . exact m
      . exact EX m (h1 z j)
theorem FZ{r:Rd}{l:List Rd}(h:∀z∈l,req z r=false):l.filter (fun z=>!req z r)=l:=
 List.filter_eq_self.2 fun z y=>by simp[h z y]
theorem RE(r:Rd):∀{l:List Rd},l.Pairwise (fun x y=>rlt x y=true)->(ins r l).Perm (r::l.filter (fun z=>!req z r))
 |[],_=>by simp[ins]
 |y::t,h=>by
  obtain⟨h1,h2⟩:=List.pairwise_cons.1 h
  unfold ins
  split
  . rename_i hy
    rw[List.filter_cons_of_pos (by simp[Jol hy])];exact((RE r h2).cons y).trans (List.Perm.swap r y _)
  . rename_i hy
    split
    . rename_i hq
      rw[List.filter_cons_of_neg (by simp[hq]),FZ fun z j=>Jad (Jac hq (h1 z j))]
    . rename_i hq
      have m:rlt r y=true:=MJ (by simpa using hy) (by simpa using hq);rw[FZ fun z j=>?_]
      rcases List.mem_cons.1 j with rfl|j
      . simpa using hq
      . exact Jad (EX m (h1 z j))
theorem J6(r:Rd):∀(l:List Rd),(ins r l).length<=l.length+1
 |[]=>by simp[ins]
 |y::t=>by
  unfold ins
  split
  . have:=J6 r t;simp;omega
  . split<;>simp
def pos(r:Rd):List Rd->Nat
 |[]=>0
 |y::t=>if rlt y r=true then pos r t+1 else 0
def rat(l:List Rd)(k:Nat):Rd:=l.getD k (0,0,0,0)
theorem EZ{l:List Rd}{k:Nat}(h:k<l.length):rat l k=l[k]:=by simp[rat,h]
theorem Jae{l:List Rd}{k:Nat}(h:k<l.length):rat l k∈l:=by rw[EZ h];exact List.getElem_mem h
theorem Jfv(r:Rd):∀l:List Rd,pos r l<=l.length
 |[]=>by simp[pos]
 |y::t=>by
  unfold pos
  split
  . have:=Jfv r t;simp;omega
  . simp
theorem MK(r:Rd):∀(l:List Rd) (k:Nat),k<pos r l->rlt (rat l k) r=true
 |[],k,h=>by simp[pos] at h
 |y::t,k,h=>by
  unfold pos at h
  split at h
  . rename_i hy
    cases k with
    |zero=>exact hy
    |succ k=>exact MK r t k (by omega)
  . omega
theorem RF(r:Rd):∀(l:List Rd),pos r l<l.length->rlt (rat l (pos r l)) r=false
 |[],h=>by simp at h
 |y::t,h=>by
  unfold pos at h|-
  split at h
  . rename_i hy
    rw[if_pos hy];exact RF r t (by simpa using h)
  . rename_i hy
    rw[if_neg hy]
    simpa[rat] using hy
theorem VY(r:Rd)(l:List Rd)(k:Nat)(hk:k<=l.length)(ha:∀j,j<k->rlt (rat l j) r=true)(hs:k=l.length\/rlt (rat l k) r=false):pos r l=k:=by
 rcases Nat.lt_trichotomy (pos r l) k with h|h|h
 . have:=RF r l (by omega);rw[ha _ h] at this;cases this
 . exact h
 . rcases hs with hs|hs
   . have:=Jfv r l;omega
   . rw[MK r l k h] at hs;cases hs
theorem Jaf(r:Rd):∀(l:List Rd),pos r l<l.length->req (rat l (pos r l)) r=true->ins r l=l.set (pos r l) r
 |[],h,_=>by simp at h
 |y::t,h,q=>by
  unfold pos at h q|-
  unfold ins
  split at h
  . rename_i hy
    rw[if_pos hy,if_pos hy,List.set_cons_succ];rw[if_pos hy] at q;rw[Jaf r t (by simpa using h) q]
  . rename_i hy
    rw[if_neg hy] at q;rw[if_neg hy,if_neg hy,if_pos (by simpa[rat] using q),List.set_cons_zero]
theorem I9(r:Rd):∀(l:List Rd),(pos r l=l.length\/req (rat l (pos r l)) r=false)->ins r l=l.take (pos r l)++r::l.drop (pos r l)
 |[],_=>by simp[ins,pos]
 |y::t,q=>by
  unfold pos at q|-
  unfold ins
  by_cases hy:rlt y r=true
  . simp only[hy,if_true] at q|-;rw[I9 r t (q.imp (fun q=>by simpa using q) (fun q=>q))]
    simp
  . rw[if_neg hy] at q|-;rw[if_neg hy]
    rcases q with q|q
    . simp at q
    . rw[if_neg (by simpa[rat] using q)]
      simp
def gat(f:Int->Option Rd)(ws:V9):List Rd:=ws.foldl (fun acc x=>match f x with|some r=>ins r acc|none=>acc) []
def BM(f:Int->Option Rd)(ws:V9):Nat:=(ws.filter fun x=>(f x).isNone).length
theorem Ue(f:Int->Option Rd)(ws:V9)(x:Int):gat f (ws++[x])=match f x with|some r=>ins r (gat f ws)|none=>gat f ws:=by
 simp[gat,List.foldl_append]
theorem Mg(f:Int->Option Rd)(ws:V9)(x:Int):BM f (ws++[x])=BM f ws+(if(f x).isNone then 1 else 0):=by
 unfold BM
 rw[List.filter_append,List.length_append]
 cases h:(f x).isNone<;>simp[h]
theorem Ziu{α:Type}(l:List α)(z:α)(k:Nat)(h:k<l.length):l.take (k+1)=l.take k++[l.getD k z]:=by
 rw[List.take_add_one];simp[h]
theorem DD{α:Type}{P:List α->Prop}(h0:P [])(h1:∀l x,P l->P (l++[x])):∀l,P l:=by
 intro l
 have:P l.reverse.reverse:=by
  induction l.reverse with
  |nil=>exact h0
  |cons x t ih=>rw[List.reverse_cons];exact h1 _ x ih
 rwa[List.reverse_reverse] at this
theorem CU(f:Int->Option Rd):∀ws,(gat f ws).Pairwise (fun x y=>rlt x y=true):=
 DD (by simp[gat]) fun l x h=>by
  rw[Ue]
  cases f x with
  |none=>exact h
  |some r=>exact J5 r h
theorem Nt(f:Int->Option Rd):∀ws,(gat f ws).length<=ws.length:=
 DD (by simp[gat]) fun l x h=>by
  rw[Ue]
  cases f x with
  |none=>simp;omega
  |some r=>have:=J6 r (gat f l);simp;omega
theorem O7(f:Int->Option Rd):∀ws r,r∈gat f ws->∃x∈ws,f x=some r:=
 DD (by simp[gat]) fun l x m=>by
  intro r;rw[Ue];intro h
  cases j:f x with
  |none=>rw[j] at h;obtain⟨y,hy,e⟩:=m r h;exact⟨y,by simp[hy],e⟩
  |some r'=>
   rw[j] at h
   rcases O6 h with rfl|h
   . exact⟨x,by simp,j⟩
   . obtain⟨y,hy,e⟩:=m r h;exact⟨y,by simp[hy],e⟩
theorem Jag(f:Int->Option Rd)(ws:V9):BM f ws<=ws.length:=List.length_filter_le _ _
def J7(a b:Int):Int:=if a<b then -1 else if b<a then 1 else 0
def rcf(x y:Rd):Int:=if J7 x.1 y.1=0 then J7 x.2.1 y.2.1 else J7 x.1 y.1
theorem O8(x y:Rd):decide (rcf x y<0)=rlt x y:=by
 unfold rcf J7 rlt
 by_cases h1:x.1<y.1
 . simp[h1]
 . by_cases h2:y.1<x.1
   . have:¬x.1=y.1:=by omega
     simp[h1,h2,this]
   . have:x.1=y.1:=by omega
     by_cases h3:x.2.1<y.2.1
     . simp[this,h3]
     . by_cases h4:y.2.1<x.2.1
       . simp[this,h3,h4]
       . simp[this,h3,h4]
theorem Jk1:Go.Sort.SWO (fun x y:Rd=>decide (rcf x y<0)) where
 irrefl x:=by rw[O8];exact J4 x
 trans x y z h k:=by rw[O8] at *;exact EX h k
 ntrans x y z h k:=by rw[O8] at *;rw[BZ] at *;omega
theorem Zif{l:List Rd}(h:l.Pairwise (fun x y=>rlt x y=true)){a b:Rd}(ha:a∈l)(H:b∈l)(h1:rlt a b=false)(h2:rlt b a=false):a=b:=by
 obtain⟨i,hi,rfl⟩:=List.getElem_of_mem ha;obtain⟨j,m,rfl⟩:=List.getElem_of_mem H;have w:=List.pairwise_iff_getElem.1 h
 rcases Nat.lt_trichotomy i j with e|e|e
 . rw[w i j hi m e] at h1;cases h1
 . subst e;rfl
 . rw[w j i m hi e] at h2;cases h2
theorem Jc3{l l':List Rd}(hs:l.Pairwise (fun x y=>rlt x y=true))(j:l'.Perm l)(hs':l'.Pairwise (fun x y=>rlt y x=false)):l'=l:=by
 refine List.Perm.eq_of_pairwise (le:=fun x y=>rlt y x=false) ?_ hs' (hs.imp fun {x y} h=>?_) j
 . intro a b ha m h1 h2;exact Zif hs (j.mem_iff.1 ha) m h2 h1
 . rw[Wg] at h;rw[BZ];omega
theorem RG{l:List Rd}{d d':Array Rd}(hs:l.Pairwise (fun x y=>rlt x y=true))(hd:d.toList.Perm l)(h:Go.Sort.PermIn 0 d.size d d')(m:Go.Sort.SortedIn (fun x y=>decide (rcf x y<0)) 0 d.size d'):d'.toList=l:=by
 obtain⟨hc,_,ha⟩:=h
 have e:d'.extract 0 d.size=d':=by rw[<-hc];exact Array.extract_size
 rw[e,Array.extract_size] at ha;refine Jc3 hs (ha.trans hd) ?_;rw[List.pairwise_iff_getElem];intro i j hi w H
 have hi':i<d'.size:=by simpa using hi
 have hj':j<d'.size:=by simpa using w
 have:=m i j (Nat.zero_le _) H (by omega);simp only[O8] at this;rw[getElem!_pos d' j hj',getElem!_pos d' i hi'] at this
 simpa using this
def fnd(a b:Int):List Rd->Option Rd
 |[]=>none
 |r::t=>if r.1=a/\r.2.1=b then some r else fnd a b t
theorem RH(a b:Int)(l:List Rd)(k:Nat)(h:k<l.length):fnd a b (l.drop k)=if(rat l k).1=a/\(rat l k).2.1=b then some (rat l k) else fnd a b (l.drop (k+1)):=by
 rw[List.drop_eq_getElem_cons h,EZ h,fnd]
end Go.Proofs.YtnepnnkdgejheaaGreatDoor.Plain
namespace Go.Proofs.YtnepnnkdgejheaaGreatDoor
open Go.RowKit Plain Tryz
variable {B K' b i j m n o:Nat}{cs:List Value}{l:List Rd}{s s':Value}{t t':TypeId}{w w':V6}
def Q4(w:V6)(g o:Nat)(r:Rd):Prop:=V2 w g o r.1/\V2 w g (o+1) r.2.1/\V2 w g (o+2) r.2.2.1/\V2 w g (o+3) r.2.2.2
def Rds(w:V6)(a:V8)(l:List Rd):Prop:=l=[]\/∃g,a=some (Ad g 0)/\∀k,k<l.length->Q4 w g (k*4) (rat l k)
theorem Q4.lq{g:Nat}{r:Rd}(h:Q4 w g o r)(y:Bw w w'):Q4 w' g o r:=⟨cell_later y h.1,cell_later y h.2.1,cell_later y h.2.2.1,cell_later y h.2.2.2⟩
theorem Rds.lq{a:V8}(h:Rds w a l)(y:Bw w w'):Rds w' a l:=by
 rcases h with h|⟨g,h,hc⟩
 . exact .inl h
 . exact .inr ⟨g,h,fun k hk=>(hc k hk).lq y⟩
theorem Rds.at{a:V8}(h:Rds w a l){k:Nat}(hk:k<l.length):∃g,a=some (Ad g 0)/\Q4 w g (k*4) (rat l k):=by
 rcases h with rfl|⟨g,h,hc⟩
 . simp at hk
 . exact⟨g,h,hc k hk⟩
def Blk(t:TypeId)(u:V6)(B:Nat)(cs:List Value):Prop:=u.heap[B]?=some (.cells cs.toArray t (0,0))
section
variable {t : TypeId} {u u' : World} {B V : Nat} {cs : List Value}
theorem Blk.new(u:V6)(t:TypeId)(cs:List Value):Blk t (u.alloc (.cells cs.toArray t)) u.heap.size cs:=World.alloc_heap_new u _
theorem Blk.lt(h:Blk t u B cs):B<u.heap.size:=(Array.getElem?_eq_some_iff.1 h).1
theorem Blk.lq(h:Blk t u B cs)(y:Bw u u'):Blk t u' B cs:=(y.block B h.lt).trans h
theorem Blk.cell(h:Blk t u B cs){v:Value}(y:cs[j]?=some v):u.cell? (Ad B j)=some v/\u.frozen? (Ad B j)=false:=by
 unfold Blk at h
 constructor
 . simp only[World.cell?,h];simp only[Option.isSome_none,Bool.false_eq_true,if_false]
   simpa using y
 . simp[World.frozen?,h]
theorem Blk.range(h:Blk t u B cs):u.rangeAt B 0 cs:=fun j v y=>by rw[Nat.zero_add];exact(h.cell y).1
theorem Blk.sub(h:Blk t u B cs)(o n:Nat):u.rangeAt B o ((cs.drop o).take n):=fun j v y=>by
 rw[List.getElem?_take] at y
 split at y
 . rw[List.getElem?_drop] at y;exact(h.cell y).1
 . cases y
theorem Blk.there(h:Blk t u B cs)(hn:o+n<=cs.length):u.there B o n:=fun j y=>by
 have hj':o+j<cs.length:=by omega
 have:=h.cell (List.getElem?_eq_getElem hj');exact⟨by rw[this.1];rfl,this.2⟩
theorem Blk.set(h:Blk t u B cs)(j:Nat)(v:Value):Blk t (u.setCell (Ad B j) v) B (cs.set j v):=by
 unfold Blk at h|-
 rw[heap_setCell_same u B j cs.toArray t v h]
 simp
theorem Blk.far(h:Blk t u B cs)(y:B≠V)(j:Nat)(v:Value):Blk t (u.setCell (Ad V j) v) B cs:=(heap_setCell_other u ⟨V,j,none⟩ B v y).trans h
end
def B8(cs:List Value)(o:Nat):List Value->List Value
 |[]=>cs
 |v::r=>B8 (cs.set o v) (o+1) r
theorem Blk.setCells:∀(y:List Value) (o:Nat) (u:V6) (cs:List Value),Blk t u B cs->Blk t (u.setCells B o y) B (B8 cs o y)
 |[],_,_,_,h=>h
 |v::r,o,u,cs,h=>Blk.setCells r (o+1) (u.setCell ⟨B,o,none⟩ v) (cs.set o v) (h.set o v)
theorem Blk.farCells{V:Nat}(y:B≠V):∀(j:List Value) (o:Nat) (u:V6),Blk t u B cs->Blk t (u.setCells V o j) B cs
 |[],_,_,h=>h
 |v::r,o,u,h=>Blk.farCells y r (o+1) (u.setCell ⟨V,o,none⟩ v) (h.far y o v)
theorem Zo{K:Nat}{w0:V6}:∀(y:List Value) (o:Nat) (w:V6),Below K w0 w->K<=b->Below K w0 (w.setCells b o y)
 |[],_,_,h,_=>h
 |v::r,o,w,h,hk=>Zo r (o+1) (w.setCell ⟨b,o,none⟩ v) (h.setCell (by simpa using hk) v) hk
theorem Zm(cs:List Value)(h:cs.all (·.oneCell')=true):cs.toArray.all (·.oneCell')=true:=by simpa using h
def smp(l:List Rd)(x y:Int):Bool×Int:=match fnd x y l with
 |some r=>if r.2.2.1=3 then(true,r.2.2.2) else(false,0)
 |none=>(false,0)
section
variable {α : Type} {f : α -> List Value} {m : Nat} {t : TypeId} {K : Nat} {u u' : World} {s : Value} {rs : List α}
def Row(f:α->List Value)(m:Nat)(t:TypeId)(K:Nat)(u:V6)(s:Value)(rs:List α):Prop:=u.ownsRow K t m s rs.length (rs.flatMap f)
theorem Row.nil(f:α->List Value)(m:Nat)(t:TypeId)(K:Nat)(u:V6):Row f m t K u (.slice none 0 0) []:=World.ownsRow_nil _ _ _ _
theorem Row.lq(h:Row f m t K u s rs)(y:Bw u u'):Row f m t K u' s rs:=by
 refine⟨h.1,?_⟩
 rcases h.2 with h2|⟨g,cap,ha,e,j,hk,h3⟩
 . exact .inl h2
 . exact .inr ⟨g,cap,ha,e,j,(y.block g (Array.getElem?_eq_some_iff.1 hk).1).trans hk,h3⟩
theorem Row.weak(h:Row f m t K u s rs)(hK:K'<=K):Row f m t K' u s rs:=by
 obtain⟨h1,h2⟩:=h;refine⟨h1,?_⟩
 rcases h2 with h2|⟨g,cap,ha,e,y,h3⟩
 . exact .inl h2
 . exact .inr ⟨g,cap,ha,e,by omega,h3⟩
theorem Row.slice(h:Row f m t K u s rs):∃a c,s=.slice a rs.length c:=by
 rcases h.2 with⟨rfl,e⟩|⟨g,cap,ha,rfl,_⟩
 . exact⟨none,0,by rw[e]⟩
 . exact⟨_,cap,rfl⟩
theorem Nu(h:∀a,(f a).length=m):∀(rs:List α) (j i:Nat) (x:α),rs[j]?=some x->i<m->(rs.flatMap f)[j*m+i]?=(f x)[i]?
 |[],j,_,_,y,_=>by simp at y
 |r::l,0,i,x,hx,hi=>by
  obtain rfl:r=x:=by simpa using hx
  rw[List.flatMap_cons,Nat.zero_mul,Nat.zero_add,List.getElem?_append_left (by rw[h];exact hi)]
 |r::l,j+1,i,x,hx,hi=>by
  have e:(j+1)*m+i-m=j*m+i:=by rw[Nat.succ_mul];omega
  rw[List.flatMap_cons,List.getElem?_append_right (by rw[h,Nat.succ_mul];omega),h,e];exact Nu h l j i x (by simpa using hx) hi
theorem Row.at{a:V8}{c:Nat}(y:∀a,(f a).length=m)(h:Row f m t K u (.slice a n c) rs)(h0:rs≠[]):∃g,a=some (Ad g 0)/\g<u.heap.size/\∀j x,rs[j]?=some x->u.rangeAt g (j*m) (f x):=by
 rcases h.2 with⟨_,e⟩|⟨g,cap,hc,e,_,w,h1,h2,h3,h4⟩
 . exact absurd (List.eq_nil_of_length_eq_zero e) h0
 . simp only[Value.slice.injEq] at e;refine⟨g,e.1,(Array.getElem?_eq_some_iff.1 w).1,fun j x hx i v H=>?_⟩
   have hi:i<m:=by
    have:=(List.getElem?_eq_some_iff.1 H).1
    rwa[y] at this
   have Y:=(List.getElem?_eq_some_iff.1 hx).1
   have ha:j*m+i<rs.length*m:=by
    have:(j+1)*m<=rs.length*m:=Nat.mul_le_mul_right m Y;rw[Nat.succ_mul] at this
    omega
   have Z:=Nu y rs j i x hx hi;rw[<-h4,List.getElem?_take_of_lt ha,Array.getElem?_toList,H] at Z;simp only[World.cell?,w];simp only[Option.isSome_none,Bool.false_eq_true,if_false];exact Z
theorem Row.below(h:Row f m t K u s rs)(hK:K<=u.heap.size)(y:u.grownBy u' s.ownBlock):Below K u u':=
 ⟨y.os,y.tape,y.output,y.size,fun b j=>y.block b (by omega) (fun e=>by have:=(World.ownsRow.lt h b e.symm).1;omega)⟩
theorem Row.ne{cs:Array Value}{z:Nat×Nat}(h:Row f m t K u s rs)(k:u.heap[b]?=some (.cells cs t' z))(ha:t'≠t):some b≠s.ownBlock:=fun e=>by
 rcases h.2 with⟨rfl,_⟩|⟨g,cap,hc,rfl,_,y,_⟩
 . cases e
 . cases e
   rw[y] at k
   cases k
   exact ha rfl
end
def dT:List TypeId:=[82,49,64,70]
def ofT(o:Obj):Prop:=∃cs t z,o=.cells cs t z/\t∈dT
structure Dt (K:Nat) (u v:V6):Prop where
 os:v.os=u.os
 tape:v.tape=u.tape
 output:v.output=u.output
 size:u.heap.size<=v.heap.size
 blk:∀b o,u.heap[b]?=some o->(b<K\/¬ofT o)->v.heap[b]?=some o
section
variable {K : Nat} {u v z : World}
theorem Dt.refl(K:Nat)(u:V6):Dt K u u:=⟨rfl,rfl,rfl,Nat.le_refl _,fun _ _ h _=>h⟩
theorem Dt.of(h:Bw u v):Dt K u v:=⟨h.os,h.tape,h.output,h.size,fun b _ k _=>(h.block b (Array.getElem?_eq_some_iff.1 k).1).trans k⟩
theorem Dt.trans(h:Dt K u v)(k:Dt K v z):Dt K u z:=⟨k.os.trans h.os,k.tape.trans h.tape,k.output.trans h.output,Nat.le_trans h.size k.size,fun b o e q=>k.blk b o (h.blk b o e q) q⟩
theorem Dt.lq(h:Dt K u v)(k:Bw v z):Dt K u z:=h.trans (.of k)
theorem Dt.below(h:Dt K u v)(hK:K<=u.heap.size):Below K u v:=⟨h.os,h.tape,h.output,h.size,fun b y=>by
 have e:u.heap[b]?=some u.heap[b]:=Array.getElem?_eq_getElem (by omega)
 rw[e];exact h.blk b _ e (.inl y)⟩
theorem Dt.cells(h:Dt K u v){cs:Array Value}{q:Nat×Nat}(k:u.heap[b]?=some (.cells cs t q))(y:t∉dT):v.heap[b]?=some (.cells cs t q):=h.blk b _ k (.inr (by rintro⟨_,_,_,e,j⟩;cases e;exact y j))
theorem Dt.set{D:Nat}{x:Value}(h:Dt K u v)(y:Blk t v D cs)(hK:K<=D)(w:t∈dT:=by decide):Dt K u (v.setCell (Ad D j) x):=by
 refine h.trans ⟨rfl,rfl,rfl,by simp,fun b o e q=>?_⟩
 have ha:b≠D:=by
  rintro rfl
  rcases q with q|q
  . omega
  . rw[y] at e;cases e;exact q ⟨_,_,_,rfl,w⟩
 exact(heap_setCell_other v ⟨D,j,none⟩ b x ha).trans e
theorem Dt.row{α:Type}{f:α->List Value}{rs:List α}(h:Dt K u v)(w:Row f m t K v s rs)(y:v.grownBy z s.ownBlock)(H:t∈dT:=by decide):Dt K u z:=by
 refine h.trans ⟨y.os,y.tape,y.output,y.size,fun b o e q=>(y.block b (Array.getElem?_eq_some_iff.1 e).1 (fun j=>?_)).trans e⟩
 rcases w.2 with⟨rfl,_⟩|⟨g,cap,ha,rfl,hK,Z,_⟩
 . cases j
 . cases j
   rcases q with q|q
   . exact absurd q (Nat.not_lt.2 hK)
   . rw[Z] at e;cases e;exact q ⟨_,_,_,rfl,H⟩
theorem Row.dt{α:Type}{f:α->List Value}{rs:List α}(y:Row f m t K' u s rs)(h:Dt K u v)(j:t∉dT:=by decide):Row f m t K' v s rs:=by
 refine⟨y.1,?_⟩
 rcases y.2 with h2|⟨g,cap,ha,e,w,H,h3⟩
 . exact .inl h2
 . exact .inr ⟨g,cap,ha,e,w,h.cells H j,h3⟩
theorem Row.kept{α β:Type}{f:α->List Value}{g:β->List Value}{rs:List α}{rs':List β}(h:Row f m t K u s rs)(hr':Row g n t' K' u s' rs')(y:u.grownBy v s'.ownBlock)(j:t≠t':=by decide):Row f m t K v s rs:=
 World.ownsRow.kept h y (by
  rcases h.2 with⟨rfl,_⟩|⟨b,cap,ha,rfl,_,w,_⟩
  . exact .inl rfl
  . exact .inr (fun e=>hr'.ne w j (by rw[<-e];rfl)))
theorem Blk.kept{β:Type}{g:β->List Value}{rs':List β}(k:Blk t u b cs)(hr':Row g n t' K u s' rs')(h:u.grownBy v s'.ownBlock)(y:t≠t':=by decide):Blk t v b cs:=
 (h.block b k.lt (hr'.ne k y)).trans k
end
def TxL(u:V6)(a:V8)(l:List V7):Prop:=∃g o cs z,a=some (Ad g o)/\u.heap[g]?=some (.cells cs 9 z)/\∀j s,l[j]?=some s->cs[o+j]?=some (.string s)
theorem TxL.at{u:V6}{a:V8}{l:List V7}(h:TxL u a l):∃g o,a=some (Ad g o)/\g<u.heap.size/\∀j s,l[j]?=some s->u.cell? (Ad g (o+j))=some (.string s):=by
 obtain⟨g,o,H,z,e,y,hc⟩:=h;refine⟨g,o,e,(Array.getElem?_eq_some_iff.1 y).1,fun j s w=>?_⟩;simp only[World.cell?,y];simp only[Option.isSome_none,Bool.false_eq_true,if_false];exact hc j s w
structure Bk where
 b:Nat->Int
 o:Nat->Bool
 l:Int
def bkL(k:Bk):List Value:=[Vi (k.b 0),Vi (k.b 1),Vi (k.b 2),.bool (k.o 0),.bool (k.o 1),.bool (k.o 2),Vi k.l]
structure FS where
 bk:Nat->Bk
 sp:Nat->Option Addr
 sn:Nat->Nat
 sc:Nat->Nat
 hd:Nat->Int×Int×Int
 n:Int
structure CR where
 a:Nat->Nat->Int
 p:Nat->Option Addr
 q:Nat->Option Addr
 al:Nat->List Int
 zl:Nat->List Int
 cn:Nat->Nat
 cm:Nat->Nat
 c0:Int
 c1:Int
def hdL(h:Int×Int×Int):List Value:=[Vi h.1,Vi h.2.1,Vi h.2.2]
def stL(S:FS):List Value:=bkL (S.bk 0)++bkL (S.bk 1)++bkL (S.bk 2)++[.slice (S.sp 0) (S.sn 0) (S.sc 0),.slice (S.sp 1) (S.sn 1) (S.sc 1)]++hdL (S.hd 0)++hdL (S.hd 1)++[Vi S.n]
def axL(C:CR)(i:Nat):List Value:=[Vi (C.a i 0),Vi (C.a i 1),Vi (C.a i 2),Vi (C.a i 3),Vi (C.a i 4),Vi (C.a i 5),Vi (C.a i 6),Vi (C.a i 7),Vi (C.a i 8),Vi (C.a i 9),Vi (C.a i 10),Vi (C.a i 11),.slice (C.p i) (C.al i).length (C.cn i),.slice (C.q i) (C.zl i).length (C.cm i),Vi (C.a i 14)]
def crL(C:CR):List Value:=axL C 0++axL C 1++[Vi C.c0,Vi C.c1]
def frL(S:FS)(C:CR)(x:Value):List Value:=stL S++crL C++[x]
def upd{α:Type}(f:Nat->α)(i:Nat)(v:α):Nat->α:=fun j=>if j=i then v else f j
theorem Zs{α:Type}(f:Nat->α)(i:Nat)(v:α):upd f i v i=v:=by simp[upd]
theorem Yv{α:Type}(f:Nat->α)(v:α)(h:j≠i):upd f i v j=f j:=by simp[upd,h]
section
variable (S : FS) (C : CR) (x : Value)
theorem X4:(crL C).length=32:=rfl
theorem Jan:(frL S C x).length=63:=rfl
theorem ON(hi:i<3):((stL S).drop (i*7)).take 7=bkL (S.bk i):=by
 rcases Qth i with rfl|rfl|rfl<;>rfl
theorem Uw(hi:i<2):(stL S)[21+i]?=some (.slice (S.sp i) (S.sn i) (S.sc i)):=by
 rcases Qtw i with rfl|rfl<;>rfl
theorem Jao(hi:i<2):((stL S).drop (23+i*3)).take 3=hdL (S.hd i):=by
 rcases Qtw i with rfl|rfl<;>rfl
theorem IB(hi:i<2):((crL C).drop (i*15)).take 15=axL C i:=by
 rcases Qtw i with rfl|rfl<;>rfl
theorem Jap(hi:i<3):((frL S C x).drop (i*7)).take 7=bkL (S.bk i):=by
 rcases Qth i with rfl|rfl|rfl<;>rfl
theorem Jaq(hi:i<3):(frL S C x)[i*7+6]?=some (Vi (S.bk i).l):=by
 rcases Qth i with rfl|rfl|rfl<;>rfl
theorem Nz(hi:i<2):(frL S C x)[21+i]?=some (.slice (S.sp i) (S.sn i) (S.sc i)):=by
 rcases Qtw i with rfl|rfl<;>rfl
theorem Jlb(hi:i<2):((frL S C x).drop (23+i*3)).take 3=hdL (S.hd i):=by
 rcases Qtw i with rfl|rfl<;>rfl
theorem JO:(frL S C x)[29]?=some (Vi S.n):=rfl
theorem Jar(hi:i<2):((frL S C x).drop (30+i*15)).take 15=axL C i:=by
 rcases Qtw i with rfl|rfl<;>rfl
theorem Jlc(hi:i<2):(frL S C x)[30+i*15+4]?=some (Vi (C.a i 4)):=by
 rcases Qtw i with rfl|rfl<;>rfl
theorem Jgg:((frL S C x).drop 30).take 32=crL C:=rfl
theorem Jas:((frL S C x).drop 30).take 30=axL C 0++axL C 1:=rfl
theorem Jld:(frL S C x)[62]?=some x:=rfl
theorem WQ(hi:i<3)(k:Bk):B8 (frL S C x) (i*7) (bkL k)=frL { S with bk:=upd S.bk i k } C x:=by
 rcases Qth i with rfl|rfl|rfl<;>kernel_rfl
theorem WR(hi:i<2)(h:Int×Int×Int):B8 (frL S C x) (23+i*3) (hdL h)=frL { S with hd:=upd S.hd i h } C x:=by
 rcases Qtw i with rfl|rfl<;>kernel_rfl
theorem Jdi(n:Int):(frL S C x).set 29 (Vi n)=frL { S with n:=n } C x:=by kernel_rfl
theorem JP(hi:i<3)(k:Bk):B8 (stL S) (i*7) (bkL k)=stL { S with bk:=upd S.bk i k }:=by
 rcases Qth i with rfl|rfl|rfl<;>kernel_rfl
theorem WS(hi:i<2)(h:Int×Int×Int):B8 (stL S) (23+i*3) (hdL h)=stL { S with hd:=upd S.hd i h }:=by
 rcases Qtw i with rfl|rfl<;>kernel_rfl
theorem MR(n:Int):(stL S).set 29 (Vi n)=stL { S with n:=n }:=by kernel_rfl
end
abbrev Qab(C:CR)(i:Nat):Array Value:=#[Vi (C.a i 0),Vi (C.a i 1),Vi (C.a i 2),Vi (C.a i 3),Vi (C.a i 4),Vi (C.a i 5),Vi (C.a i 6),Vi (C.a i 7),Vi (C.a i 8),Vi (C.a i 9),Vi (C.a i 10),Vi (C.a i 11),.slice (C.p i) (C.al i).length (C.cn i),.slice (C.q i) (C.zl i).length (C.cm i),Vi (C.a i 14)]
abbrev Qae(C:CR)(i:Nat):List Value:=[Vi (C.a i 0),Vi (C.a i 1),Vi (C.a i 2),Vi (C.a i 3),Vi (C.a i 4),Vi (C.a i 5),Vi (C.a i 6),Vi (C.a i 7),Vi (C.a i 8),Vi (C.a i 9),Vi (C.a i 10),Vi (C.a i 11),.slice (C.p i) (C.al i).length (C.cn i),.slice (C.q i) (C.zl i).length (C.cm i),Vi (C.a i 14)]
abbrev Qaq(C:CR)(i:Nat)(mo:Int):List Value:=[Vi (C.a i 0),Vi (C.a i 1),Vi (C.a i 11),Vi (C.a i 14),Vi mo,.slice (C.p i) (C.al i).length (C.cn i),.slice (C.q i) (C.zl i).length (C.cm i)]
abbrev Qbl(C:CR)(i:Nat)(pu mo ra:Int):List Value:=[Vi (C.a i 0),Vi (C.a i 1),Vi (C.a i 2),Vi pu,Vi mo,Vi ra]
abbrev Qbu(C:CR)(i:Nat):Array Value:=#[Vi (C.a i 5),Vi (C.a i 6),Vi (C.a i 7),Vi (C.a i 10)]
end Go.Proofs.YtnepnnkdgejheaaGreatDoor
namespace Go.Proofs.YtnepnnkdgejheaaGreatDoor.Plain
set_option linter.unusedVariables false
theorem Jb1(r:Rd)(a b:Int):∀{l:List Rd},l.Pairwise (fun x y=>rlt x y=true)->fnd a b (ins r l)=if r.1=a/\r.2.1=b then some r else fnd a b l
 |[],_=>by simp[ins,fnd]
 |y::t,h=>by
  obtain⟨h1,h2⟩:=List.pairwise_cons.1 h
  unfold ins
  split
  . rename_i hy
    rw[fnd,Jb1 r a b h2];rw[Wg] at hy
    by_cases j:r.1=a/\r.2.1=b
    . rw[if_pos j,if_pos j,if_neg (by omega)]
    . rw[if_neg j,if_neg j,fnd]
  . split
    . rename_i hq
      rw[DC] at hq
      by_cases j:r.1=a/\r.2.1=b
      . rw[fnd,if_pos j,if_pos j]
      . rw[fnd,fnd,if_neg j,if_neg j,if_neg (by omega)]
    . rw[fnd]
def lst(a b:Int)(l:List Rd):Option Rd:=fnd a b l.reverse
theorem KQ(a b:Int):∀(l m:List Rd),fnd a b (l++m)=(fnd a b l).or (fnd a b m)
 |[],m=>by simp[fnd]
 |r::t,m=>by
  rw[List.cons_append,fnd,fnd]
  split
  . rfl
  . exact KQ a b t m
theorem KR(a b:Int)(l m:List Rd):lst a b (l++m)=(lst a b m).or (lst a b l):=by
 unfold lst;rw[List.reverse_append,KQ]
theorem KT(a b:Int)(l:List Rd)(r:Rd):lst a b (l++[r])=if r.1=a/\r.2.1=b then some r else lst a b l:=by
 rw[KR];simp only[lst,List.reverse_cons,List.reverse_nil,List.nil_append,fnd]
 split<;>rfl
theorem Jmg(f:Int->Option Rd)(g:Rd->Int)(a b:Int):∀rs:List Rd,(∀r∈rs,f (g r)=some r)->fnd a b (gat f (rs.map g))=lst a b rs:=
 DD (fun _=>rfl) fun l r y h=>by
  rw[List.map_append,List.map_cons,List.map_nil,Ue,h r (by simp),KT,Jb1 r a b (CU f _),y fun z j=>h z (by simp[j])]
end Go.Proofs.YtnepnnkdgejheaaGreatDoor.Plain
