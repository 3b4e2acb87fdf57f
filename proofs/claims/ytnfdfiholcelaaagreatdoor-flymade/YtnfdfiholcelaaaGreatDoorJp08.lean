import Derived.Sort.LotA
import Derived.Deep.WholeRow
import Derived.RangeFuncRecord
import Derived.Laws.Rows
import Derived.Test.YtnfdfiholcelaaaGreatDoorJp01
set_option maxRecDepth 100000
set_option maxHeartbeats 20000000
namespace Go.Proofs.YtnfdfiholcelaaaGreatDoor.Plain
set_option linter.unusedVariables false
abbrev Rd:=Int×Int×Int×Int
def rlt(x y:Rd):Bool:=decide (x.1<y.1)||(decide (x.1=y.1)&&decide (x.2.1<y.2.1))
def req(x y:Rd):Bool:=decide (x.1=y.1)&&decide (x.2.1=y.2.1)
theorem X2{x y:Rd}:rlt x y=true↔x.1<y.1∨(x.1=y.1∧x.2.1<y.2.1):=by simp[rlt]
theorem req_iff{x y:Rd}:req x y=true↔x.1=y.1∧x.2.1=y.2.1:=by simp[req]
theorem rlt_no{x y:Rd}:rlt x y=false↔¬(x.1<y.1∨(x.1=y.1∧x.2.1<y.2.1)):=by rw[←X2];simp
theorem req_no{x y:Rd}:req x y=false↔¬(x.1=y.1∧x.2.1=y.2.1):=by rw[←req_iff];simp
theorem rlt_trans{x y z:Rd}(h:rlt x y=true)(k:rlt y z=true):rlt x z=true:=by
 rw[X2] at *;omega
theorem rlt_irrefl(x:Rd):rlt x x=false:=by rw[rlt_no];omega
theorem rlt_other{y r:Rd}(h:rlt y r=false)(k:req y r=false):rlt r y=true:=by
 rw[rlt_no] at h;rw[req_no] at k;rw[X2];omega
theorem rlt_req{y r z:Rd}(k:req y r=true)(h:rlt y z=true):rlt r z=true:=by
 rw[req_iff] at k;rw[X2] at *;omega
theorem rlt_ne{x y:Rd}(h:rlt x y=true):req x y=false:=by rw[X2] at h;rw[req_no];omega
theorem rlt_ne'{x y:Rd}(h:rlt x y=true):req y x=false:=by rw[X2] at h;rw[req_no];omega
def ins(r:Rd):List Rd→List Rd
 |[]=>[r]
 |y::t=>if rlt y r=true then y::ins r t else if req y r=true then r::t else r::y::t
theorem mem_ins{r z:Rd}:∀{l:List Rd},z∈ins r l→z=r∨z∈l
 |[],h=>by simp[ins] at h;exact .inl h
 |y::t,h=>by
  unfold ins at h
  split at h
  · rcases List.mem_cons.1 h with rfl|h
    · exact .inr (by simp)
    · rcases mem_ins h with h|h
      · exact .inl h
      · exact .inr (by simp[h])
  · split at h
    · rcases List.mem_cons.1 h with rfl|h
      · exact .inl rfl
      · exact .inr (by simp[h])
    · rcases List.mem_cons.1 h with rfl|h
      · exact .inl rfl
      · exact .inr h
theorem ins_sorted(r:Rd):∀{l:List Rd},l.Pairwise (fun x y=>rlt x y=true)→(ins r l).Pairwise (fun x y=>rlt x y=true)
 |[],_=>by simp[ins]
 |y::t,h=>by
  obtain⟨h1,h2⟩:=List.pairwise_cons.1 h
  unfold ins
  split
  · rename_i hy
    refine List.pairwise_cons.2 ⟨fun z hz=>?_,ins_sorted r h2⟩
    rcases mem_ins hz with rfl|hz
    · exact hy
    · exact h1 z hz
  · rename_i hy
    split
    · rename_i hq
      exact List.pairwise_cons.2 ⟨fun z hz=>rlt_req hq (h1 z hz),h2⟩
    · rename_i hq
      have hr:rlt r y=true:=rlt_other (by simpa using hy) (by simpa using hq);refine List.pairwise_cons.2 ⟨fun z hz=>?_,h⟩
      rcases List.mem_cons.1 hz with rfl|hz
      · exact hr
      · exact rlt_trans hr (h1 z hz)
theorem filter_self{r:Rd}{l:List Rd}(h:∀z∈l,req z r=false):l.filter (fun z=>!req z r)=l:=
 List.filter_eq_self.2 fun z hz=>by simp[h z hz]
theorem ins_perm(r:Rd):∀{l:List Rd},l.Pairwise (fun x y=>rlt x y=true)→(ins r l).Perm (r::l.filter (fun z=>!req z r))
 |[],_=>by simp[ins]
 |y::t,h=>by
  obtain⟨h1,h2⟩:=List.pairwise_cons.1 h
  unfold ins
  split
  · rename_i hy
    rw[List.filter_cons_of_pos (by simp[rlt_ne hy])];exact((ins_perm r h2).cons y).trans (List.Perm.swap r y _)
  · rename_i hy
    split
    · rename_i hq
      rw[List.filter_cons_of_neg (by simp[hq]),filter_self fun z hz=>rlt_ne' (rlt_req hq (h1 z hz))]
    · rename_i hq
      have hr:rlt r y=true:=rlt_other (by simpa using hy) (by simpa using hq);rw[filter_self fun z hz=>?_]
      rcases List.mem_cons.1 hz with rfl|hz
      · simpa using hq
      · exact rlt_ne' (rlt_trans hr (h1 z hz))
theorem ins_length(r:Rd):∀(l:List Rd),(ins r l).length≤l.length+1
 |[]=>by simp[ins]
 |y::t=>by
  unfold ins
  split
  · have:=ins_length r t;simp;omega
  · split<;>simp
def pos(r:Rd):List Rd→Nat
 |[]=>0
 |y::t=>if rlt y r=true then pos r t+1 else 0
def rat(l:List Rd)(k:Nat):Rd:=l.getD k (0,0,0,0)
theorem rat_eq{l:List Rd}{k:Nat}(h:k<l.length):rat l k=l[k]:=by simp[rat,h]
theorem rat_mem{l:List Rd}{k:Nat}(h:k<l.length):rat l k∈l:=by rw[rat_eq h];exact List.getElem_mem h
theorem pos_le(r:Rd):∀l:List Rd,pos r l≤l.length
 |[]=>by simp[pos]
 |y::t=>by
  unfold pos
  split
  · have:=pos_le r t;simp;omega
  · simp
theorem pos_ahead(r:Rd):∀(l:List Rd) (k:Nat),k<pos r l→rlt (rat l k) r=true
 |[],k,h=>by simp[pos] at h
 |y::t,k,h=>by
  unfold pos at h
  split at h
  · rename_i hy
    cases k with
    |zero=>exact hy
    |succ k=>exact pos_ahead r t k (by omega)
  · omega
theorem pos_stop(r:Rd):∀(l:List Rd),pos r l<l.length→rlt (rat l (pos r l)) r=false
 |[],h=>by simp at h
 |y::t,h=>by
  unfold pos at h⊢
  split at h
  · rename_i hy
    rw[if_pos hy];exact pos_stop r t (by simpa using h)
  · rename_i hy
    rw[if_neg hy]
    simpa[rat] using hy
theorem pos_is(r:Rd)(l:List Rd)(k:Nat)(hk:k≤l.length)(ha:∀j,j<k→rlt (rat l j) r=true)(hs:k=l.length∨rlt (rat l k) r=false):pos r l=k:=by
 rcases Nat.lt_trichotomy (pos r l) k with h|h|h
 · have:=pos_stop r l (by omega);rw[ha _ h] at this;cases this
 · exact h
 · rcases hs with hs|hs
   · have:=pos_le r l;omega
   · rw[pos_ahead r l k h] at hs;cases hs
theorem ins_set(r:Rd):∀(l:List Rd),pos r l<l.length→req (rat l (pos r l)) r=true→ins r l=l.set (pos r l) r
 |[],h,_=>by simp at h
 |y::t,h,q=>by
  unfold pos at h q⊢
  unfold ins
  split at h
  · rename_i hy
    rw[if_pos hy,if_pos hy,List.set_cons_succ];rw[if_pos hy] at q;rw[ins_set r t (by simpa using h) q]
  · rename_i hy
    rw[if_neg hy] at q;rw[if_neg hy,if_neg hy,if_pos (by simpa[rat] using q),List.set_cons_zero]
theorem ins_put(r:Rd):∀(l:List Rd),(pos r l=l.length∨req (rat l (pos r l)) r=false)→ins r l=l.take (pos r l)++r::l.drop (pos r l)
 |[],_=>by simp[ins,pos]
 |y::t,q=>by
  unfold pos at q⊢
  unfold ins
  by_cases hy:rlt y r=true
  · simp only[hy,if_true] at q⊢;rw[ins_put r t (q.imp (fun q=>by simpa using q) (fun q=>q))]
    simp
  · rw[if_neg hy] at q⊢;rw[if_neg hy]
    rcases q with q|q
    · simp at q
    · rw[if_neg (by simpa[rat] using q)]
      simp
def gat(f:Int→Option Rd)(ws:List Int):List Rd:=ws.foldl (fun acc x=>match f x with|some r=>ins r acc|none=>acc) []
def bads(f:Int→Option Rd)(ws:List Int):Nat:=(ws.filter fun x=>(f x).isNone).length
theorem Wm(f:Int→Option Rd)(ws:List Int)(x:Int):gat f (ws++[x])=match f x with|some r=>ins r (gat f ws)|none=>gat f ws:=by
 simp[gat,List.foldl_append]
theorem Ni(f:Int→Option Rd)(ws:List Int)(x:Int):bads f (ws++[x])=bads f ws+(if(f x).isNone then 1 else 0):=by
 unfold bads
 rw[List.filter_append,List.length_append]
 cases h:(f x).isNone<;>simp[h]
theorem Zhv{α:Type}(l:List α)(z:α)(k:Nat)(h:k<l.length):l.take (k+1)=l.take k++[l.getD k z]:=by
 rw[List.take_add_one];simp[h]
theorem snoc_ind{α:Type}{P:List α→Prop}(h0:P [])(h1:∀l x,P l→P (l++[x])):∀l,P l:=by
 intro l
 have:P l.reverse.reverse:=by
  induction l.reverse with
  |nil=>exact h0
  |cons x t ih=>rw[List.reverse_cons];exact h1 _ x ih
 rwa[List.reverse_reverse] at this
theorem gat_sorted(f:Int→Option Rd):∀ws,(gat f ws).Pairwise (fun x y=>rlt x y=true):=
 snoc_ind (by simp[gat]) fun l x ih=>by
  rw[Wm]
  cases f x with
  |none=>exact ih
  |some r=>exact ins_sorted r ih
theorem Uw(f:Int→Option Rd):∀ws,(gat f ws).length≤ws.length:=
 snoc_ind (by simp[gat]) fun l x ih=>by
  rw[Wm]
  cases f x with
  |none=>simp;omega
  |some r=>have:=ins_length r (gat f l);simp;omega
theorem gat_mem(f:Int→Option Rd):∀ws r,r∈gat f ws→∃x∈ws,f x=some r:=
 snoc_ind (by simp[gat]) fun l x ih=>by
  intro r;rw[Wm];intro h
  cases hf:f x with
  |none=>rw[hf] at h;obtain⟨y,hy,e⟩:=ih r h;exact⟨y,by simp[hy],e⟩
  |some r'=>
   rw[hf] at h
   rcases mem_ins h with rfl|h
   · exact⟨x,by simp,hf⟩
   · obtain⟨y,hy,e⟩:=ih r h;exact⟨y,by simp[hy],e⟩
theorem bads_le(f:Int→Option Rd)(ws:List Int):bads f ws≤ws.length:=List.length_filter_le _ _
def cmpI(a b:Int):Int:=if a<b then -1 else if b<a then 1 else 0
def rcf(x y:Rd):Int:=if cmpI x.1 y.1=0 then cmpI x.2.1 y.2.1 else cmpI x.1 y.1
theorem rcf_lt(x y:Rd):decide (rcf x y<0)=rlt x y:=by
 unfold rcf cmpI rlt
 by_cases h1:x.1<y.1
 · simp[h1]
 · by_cases h2:y.1<x.1
   · have:¬x.1=y.1:=by omega
     simp[h1,h2,this]
   · have:x.1=y.1:=by omega
     by_cases h3:x.2.1<y.2.1
     · simp[this,h3]
     · by_cases h4:y.2.1<x.2.1
       · simp[this,h3,h4]
       · simp[this,h3,h4]
theorem swo_rcf:Go.Sort.SWO (fun x y:Rd=>decide (rcf x y<0)) where
 irrefl x:=by rw[rcf_lt];exact rlt_irrefl x
 trans x y z h k:=by rw[rcf_lt] at *;exact rlt_trans h k
 ntrans x y z h k:=by rw[rcf_lt] at *;rw[rlt_no] at *;omega
theorem Zhh{l:List Rd}(h:l.Pairwise (fun x y=>rlt x y=true)){a b:Rd}(ha:a∈l)(hb:b∈l)(h1:rlt a b=false)(h2:rlt b a=false):a=b:=by
 obtain⟨i,hi,rfl⟩:=List.getElem_of_mem ha;obtain⟨j,hj,rfl⟩:=List.getElem_of_mem hb;have hp:=List.pairwise_iff_getElem.1 h
 rcases Nat.lt_trichotomy i j with e|e|e
 · rw[hp i j hi hj e] at h1;cases h1
 · subst e;rfl
 · rw[hp j i hj hi e] at h2;cases h2
theorem sorted_is{l l':List Rd}(hs:l.Pairwise (fun x y=>rlt x y=true))(hp:l'.Perm l)(hs':l'.Pairwise (fun x y=>rlt y x=false)):l'=l:=by
 refine List.Perm.eq_of_pairwise (le:=fun x y=>rlt y x=false) ?_ hs' (hs.imp fun {x y} h=>?_) hp
 · intro a b ha hb h1 h2;exact Zhh hs (hp.mem_iff.1 ha) hb h2 h1
 · rw[X2] at h;rw[rlt_no];omega
theorem sortedIn_is{l:List Rd}{d d':Array Rd}(hs:l.Pairwise (fun x y=>rlt x y=true))(hd:d.toList.Perm l)(hp:Go.Sort.PermIn 0 d.size d d')(hso:Go.Sort.SortedIn (fun x y=>decide (rcf x y<0)) 0 d.size d'):d'.toList=l:=by
 obtain⟨hsz,_,hperm⟩:=hp
 have e1:d'.extract 0 d.size=d':=by rw[←hsz];exact Array.extract_size
 rw[e1,Array.extract_size] at hperm;refine sorted_is hs (hperm.trans hd) ?_;rw[List.pairwise_iff_getElem];intro i j hi hj hij
 have hi':i<d'.size:=by simpa using hi
 have hj':j<d'.size:=by simpa using hj
 have:=hso i j (Nat.zero_le _) hij (by omega);simp only[rcf_lt] at this;rw[getElem!_pos d' j hj',getElem!_pos d' i hi'] at this
 simpa using this
def fnd(a b:Int):List Rd→Option Rd
 |[]=>none
 |r::t=>if r.1=a∧r.2.1=b then some r else fnd a b t
theorem fnd_step(a b:Int)(l:List Rd)(k:Nat)(h:k<l.length):fnd a b (l.drop k)=if(rat l k).1=a∧(rat l k).2.1=b then some (rat l k) else fnd a b (l.drop (k+1)):=by
 rw[List.drop_eq_getElem_cons h,rat_eq h,fnd]
end Go.Proofs.YtnfdfiholcelaaaGreatDoor.Plain
namespace Go.Proofs.YtnfdfiholcelaaaGreatDoor
open Go.RowKit Plain Tryz
variable {B i j o:Nat}{a:Option Addr}{l:List Rd}{t:TypeId}{w w':World}
def Q4(w:World)(g o:Nat)(r:Rd):Prop:=Kc w g o (Vi r.1)∧Kc w g (o+1) (Vi r.2.1)∧Kc w g (o+2) (Vi r.2.2.1)∧Kc w g (o+3) (Vi r.2.2.2)
def Rds(w:World)(a:Option Addr)(l:List Rd):Prop:=l=[]∨∃g,a=some (Ad g 0)∧∀k,k<l.length→Q4 w g (k*4) (rat l k)
theorem Q4.later{g:Nat}{r:Rd}(h:Q4 w g o r)(hb:Bw w w'):Q4 w' g o r:=⟨cell_later hb h.1,cell_later hb h.2.1,cell_later hb h.2.2.1,cell_later hb h.2.2.2⟩
theorem Rds.later(h:Rds w a l)(hb:Bw w w'):Rds w' a l:=by
 rcases h with h|⟨g,h,hc⟩
 · exact .inl h
 · exact .inr ⟨g,h,fun k hk=>(hc k hk).later hb⟩
theorem Rds.at(h:Rds w a l){k:Nat}(hk:k<l.length):∃g,a=some (Ad g 0)∧Q4 w g (k*4) (rat l k):=by
 rcases h with rfl|⟨g,h,hc⟩
 · simp at hk
 · exact⟨g,h,hc k hk⟩
def Blk(t:TypeId)(u:World)(B:Nat)(cs:List Value):Prop:=u.heap[B]?=some (.cells cs.toArray t (0,0))
section
variable {t : TypeId} {u u' : World} {B V : Nat} {cs : List Value}
theorem Blk.new(u:World)(t:TypeId)(cs:List Value):Blk t (u.alloc (.cells cs.toArray t)) u.heap.size cs:=World.alloc_heap_new u _
theorem Blk.lt(h:Blk t u B cs):B<u.heap.size:=(Array.getElem?_eq_some_iff.1 h).1
theorem Blk.later(h:Blk t u B cs)(hb:Bw u u'):Blk t u' B cs:=(hb.block B h.lt).trans h
theorem Blk.cell(h:Blk t u B cs){v:Value}(hv:cs[j]?=some v):u.cell? (Ad B j)=some v∧u.frozen? (Ad B j)=false:=by
 unfold Blk at h
 constructor
 · simp only[World.cell?,h];simp only[Option.isSome_none,Bool.false_eq_true,if_false]
   simpa using hv
 · simp[World.frozen?,h]
theorem Blk.range(h:Blk t u B cs):u.rangeAt B 0 cs:=fun j v hv=>by rw[Nat.zero_add];exact(h.cell hv).1
theorem Blk.sub(h:Blk t u B cs)(o n:Nat):u.rangeAt B o ((cs.drop o).take n):=fun j v hv=>by
 rw[List.getElem?_take] at hv
 split at hv
 · rw[List.getElem?_drop] at hv;exact(h.cell hv).1
 · cases hv
theorem Blk.there(h:Blk t u B cs){n:Nat}(hn:o+n≤cs.length):u.there B o n:=fun j hj=>by
 have hj':o+j<cs.length:=by omega
 have:=h.cell (List.getElem?_eq_getElem hj');exact⟨by rw[this.1];rfl,this.2⟩
theorem Blk.set(h:Blk t u B cs)(j:Nat)(v:Value):Blk t (u.setCell (Ad B j) v) B (cs.set j v):=by
 unfold Blk at h⊢
 rw[heap_setCell_same u B j cs.toArray t v h]
 simp
theorem Blk.far(h:Blk t u B cs)(hV:B≠V)(j:Nat)(v:Value):Blk t (u.setCell (Ad V j) v) B cs:=(heap_setCell_other u ⟨V,j,none⟩ B v hV).trans h
end
def putL(cs:List Value)(o:Nat):List Value→List Value
 |[]=>cs
 |v::r=>putL (cs.set o v) (o+1) r
theorem Blk.setCells:∀(vs:List Value) (o:Nat) (u:World) (cs:List Value),Blk t u B cs→Blk t (u.setCells B o vs) B (putL cs o vs)
 |[],_,_,_,h=>h
 |v::r,o,u,cs,h=>Blk.setCells r (o+1) (u.setCell ⟨B,o,none⟩ v) (cs.set o v) (h.set o v)
theorem Blk.farCells{V:Nat}{cs:List Value}(hV:B≠V):∀(vs:List Value) (o:Nat) (u:World),Blk t u B cs→Blk t (u.setCells V o vs) B cs
 |[],_,_,h=>h
 |v::r,o,u,h=>Blk.farCells hV r (o+1) (u.setCell ⟨V,o,none⟩ v) (h.far hV o v)
theorem Zr{K b:Nat}{w0:World}:∀(vs:List Value) (o:Nat) (w:World),Below K w0 w→K≤b→Below K w0 (w.setCells b o vs)
 |[],_,_,h,_=>h
 |v::r,o,w,h,hk=>Zr r (o+1) (w.setCell ⟨b,o,none⟩ v) (h.setCell (by simpa using hk) v) hk
theorem Zn(cs:List Value)(h:cs.all (·.oneCell')=true):cs.toArray.all (·.oneCell')=true:=by simpa using h
def smp(l:List Rd)(x y:Int):Bool×Int:=match fnd x y l with
 |some r=>if r.2.2.1=3 then(true,r.2.2.2) else(false,0)
 |none=>(false,0)
structure Bk where
 b:Nat→Int
 o:Nat→Bool
 l:Int
def bkL(k:Bk):List Value:=[Vi (k.b 0),Vi (k.b 1),Vi (k.b 2),.bool (k.o 0),.bool (k.o 1),.bool (k.o 2),Vi k.l]
structure FS where
 bk:Nat→Bk
 sp:Nat→Option Addr
 sn:Nat→Nat
 sc:Nat→Nat
 hd:Nat→Int×Int×Int
 n:Int
structure CR where
 a:Nat→Nat→Int
 p:Nat→Option Addr
 q:Nat→Option Addr
 al:Nat→List Int
 zl:Nat→List Int
 cn:Nat→Nat
 cm:Nat→Nat
 c0:Int
 c1:Int
def hdL(h:Int×Int×Int):List Value:=[Vi h.1,Vi h.2.1,Vi h.2.2]
def stL(S:FS):List Value:=bkL (S.bk 0)++bkL (S.bk 1)++bkL (S.bk 2)++[.slice (S.sp 0) (S.sn 0) (S.sc 0),.slice (S.sp 1) (S.sn 1) (S.sc 1)]++hdL (S.hd 0)++hdL (S.hd 1)++[Vi S.n]
def axL(C:CR)(i:Nat):List Value:=[Vi (C.a i 0),Vi (C.a i 1),Vi (C.a i 2),Vi (C.a i 3),Vi (C.a i 4),Vi (C.a i 5),Vi (C.a i 6),Vi (C.a i 7),Vi (C.a i 8),Vi (C.a i 9),Vi (C.a i 10),Vi (C.a i 11),.slice (C.p i) (C.al i).length (C.cn i),.slice (C.q i) (C.zl i).length (C.cm i),Vi (C.a i 14)]
def crL(C:CR):List Value:=axL C 0++axL C 1++[Vi C.c0,Vi C.c1]
def frL(S:FS)(C:CR)(x:Value):List Value:=stL S++crL C++[x]
def upd{α:Type}(f:Nat→α)(i:Nat)(v:α):Nat→α:=fun j=>if j=i then v else f j
theorem Zp{α:Type}(f:Nat→α)(i:Nat)(v:α):upd f i v i=v:=by simp[upd]
theorem Yn{α:Type}(f:Nat→α)(v:α)(h:j≠i):upd f i v j=f j:=by simp[upd,h]
section
variable (S : FS) (C : CR) (x : Value)
theorem frL_len:(frL S C x).length=63:=rfl
theorem st_bank(hi:i<3):((stL S).drop (i*7)).take 7=bkL (S.bk i):=by
 rcases Qth i with rfl|rfl|rfl<;>rfl
theorem Wy(hi:i<2):(stL S)[21+i]?=some (.slice (S.sp i) (S.sn i) (S.sc i)):=by
 rcases Qtw i with rfl|rfl<;>rfl
theorem st_hold(hi:i<2):((stL S).drop (23+i*3)).take 3=hdL (S.hd i):=by
 rcases Qtw i with rfl|rfl<;>rfl
theorem cr_axis(hi:i<2):((crL C).drop (i*15)).take 15=axL C i:=by
 rcases Qtw i with rfl|rfl<;>rfl
theorem fr_bank(hi:i<3):((frL S C x).drop (i*7)).take 7=bkL (S.bk i):=by
 rcases Qth i with rfl|rfl|rfl<;>rfl
theorem fr_last(hi:i<3):(frL S C x)[i*7+6]?=some (Vi (S.bk i).l):=by
 rcases Qth i with rfl|rfl|rfl<;>rfl
theorem Uz(hi:i<2):(frL S C x)[21+i]?=some (.slice (S.sp i) (S.sn i) (S.sc i)):=by
 rcases Qtw i with rfl|rfl<;>rfl
theorem fr_hold(hi:i<2):((frL S C x).drop (23+i*3)).take 3=hdL (S.hd i):=by
 rcases Qtw i with rfl|rfl<;>rfl
theorem fr_law:(frL S C x)[29]?=some (Vi S.n):=rfl
theorem fr_axis(hi:i<2):((frL S C x).drop (30+i*15)).take 15=axL C i:=by
 rcases Qtw i with rfl|rfl<;>rfl
theorem fr_surf(hi:i<2):(frL S C x)[30+i*15+4]?=some (Vi (C.a i 4)):=by
 rcases Qtw i with rfl|rfl<;>rfl
theorem fr_craft:((frL S C x).drop 30).take 32=crL C:=rfl
theorem fr_axes:((frL S C x).drop 30).take 30=axL C 0++axL C 1:=rfl
theorem fr_said:(frL S C x)[62]?=some x:=rfl
theorem fr_putBank(hi:i<3)(k:Bk):putL (frL S C x) (i*7) (bkL k)=frL { S with bk:=upd S.bk i k } C x:=by
 rcases Qth i with rfl|rfl|rfl<;>kernel_rfl
theorem fr_putHold(hi:i<2)(h:Int×Int×Int):putL (frL S C x) (23+i*3) (hdL h)=frL { S with hd:=upd S.hd i h } C x:=by
 rcases Qtw i with rfl|rfl<;>kernel_rfl
theorem fr_putLaw(n:Int):(frL S C x).set 29 (Vi n)=frL { S with n:=n } C x:=by kernel_rfl
theorem st_putBank(hi:i<3)(k:Bk):putL (stL S) (i*7) (bkL k)=stL { S with bk:=upd S.bk i k }:=by
 rcases Qth i with rfl|rfl|rfl<;>kernel_rfl
theorem st_putHold(hi:i<2)(h:Int×Int×Int):putL (stL S) (23+i*3) (hdL h)=stL { S with hd:=upd S.hd i h }:=by
 rcases Qtw i with rfl|rfl<;>kernel_rfl
theorem st_putLaw(n:Int):(stL S).set 29 (Vi n)=stL { S with n:=n }:=by kernel_rfl
end
abbrev Qab(C:CR)(i:Nat):Array Value:=#[Vi (C.a i 0),Vi (C.a i 1),Vi (C.a i 2),Vi (C.a i 3),Vi (C.a i 4),Vi (C.a i 5),Vi (C.a i 6),Vi (C.a i 7),Vi (C.a i 8),Vi (C.a i 9),Vi (C.a i 10),Vi (C.a i 11),.slice (C.p i) (C.al i).length (C.cn i),.slice (C.q i) (C.zl i).length (C.cm i),Vi (C.a i 14)]
abbrev Qad(C:CR)(i:Nat):List Value:=[Vi (C.a i 0),Vi (C.a i 1),Vi (C.a i 2),Vi (C.a i 3),Vi (C.a i 4),Vi (C.a i 5),Vi (C.a i 6),Vi (C.a i 7),Vi (C.a i 8),Vi (C.a i 9),Vi (C.a i 10),Vi (C.a i 11),.slice (C.p i) (C.al i).length (C.cn i),.slice (C.q i) (C.zl i).length (C.cm i),Vi (C.a i 14)]
abbrev Qao(C:CR)(i:Nat)(mo:Int):List Value:=[Vi (C.a i 0),Vi (C.a i 1),Vi (C.a i 11),Vi (C.a i 14),Vi mo,.slice (C.p i) (C.al i).length (C.cn i),.slice (C.q i) (C.zl i).length (C.cm i)]
abbrev Qbj(C:CR)(i:Nat)(pu mo ra:Int):List Value:=[Vi (C.a i 0),Vi (C.a i 1),Vi (C.a i 2),Vi pu,Vi mo,Vi ra]
abbrev Qbu(C:CR)(i:Nat):Array Value:=#[Vi (C.a i 5),Vi (C.a i 6),Vi (C.a i 7),Vi (C.a i 10)]
end Go.Proofs.YtnfdfiholcelaaaGreatDoor
namespace Go.Proofs.YtnfdfiholcelaaaGreatDoor.Plain
set_option linter.unusedVariables false
theorem fnd_ins(r:Rd)(a b:Int):∀{l:List Rd},l.Pairwise (fun x y=>rlt x y=true)→fnd a b (ins r l)=if r.1=a∧r.2.1=b then some r else fnd a b l
 |[],_=>by simp[ins,fnd]
 |y::t,h=>by
  obtain⟨h1,h2⟩:=List.pairwise_cons.1 h
  unfold ins
  split
  · rename_i hy
    rw[fnd,fnd_ins r a b h2];rw[X2] at hy
    by_cases hr:r.1=a∧r.2.1=b
    · rw[if_pos hr,if_pos hr,if_neg (by omega)]
    · rw[if_neg hr,if_neg hr,fnd]
  · split
    · rename_i hq
      rw[req_iff] at hq
      by_cases hr:r.1=a∧r.2.1=b
      · rw[fnd,if_pos hr,if_pos hr]
      · rw[fnd,fnd,if_neg hr,if_neg hr,if_neg (by omega)]
    · rw[fnd]
def lst(a b:Int)(l:List Rd):Option Rd:=fnd a b l.reverse
theorem fnd_append(a b:Int):∀(l m:List Rd),fnd a b (l++m)=(fnd a b l).or (fnd a b m)
 |[],m=>by simp[fnd]
 |r::t,m=>by
  rw[List.cons_append,fnd,fnd]
  split
  · rfl
  · exact fnd_append a b t m
theorem lst_append(a b:Int)(l m:List Rd):lst a b (l++m)=(lst a b m).or (lst a b l):=by
 unfold lst;rw[List.reverse_append,fnd_append]
theorem lst_snoc(a b:Int)(l:List Rd)(r:Rd):lst a b (l++[r])=if r.1=a∧r.2.1=b then some r else lst a b l:=by
 rw[lst_append];simp only[lst,List.reverse_cons,List.reverse_nil,List.nil_append,fnd]
 split<;>rfl
theorem fnd_gat(f:Int→Option Rd)(g:Rd→Int)(a b:Int):∀rs:List Rd,(∀r∈rs,f (g r)=some r)→fnd a b (gat f (rs.map g))=lst a b rs:=
 snoc_ind (fun _=>rfl) fun l r ih h=>by
  rw[List.map_append,List.map_cons,List.map_nil,Wm,h r (by simp),lst_snoc,fnd_ins r a b (gat_sorted f _),ih fun z hz=>h z (by simp[hz])]
end Go.Proofs.YtnfdfiholcelaaaGreatDoor.Plain
