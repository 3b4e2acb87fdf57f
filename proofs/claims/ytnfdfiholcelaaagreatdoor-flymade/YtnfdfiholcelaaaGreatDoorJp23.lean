import Derived.Deep.AppendSrc
import Derived.Test.YtnfdfiholcelaaaGreatDoorJp20
set_option maxRecDepth 100000
set_option maxHeartbeats 20000000
namespace Go.Proofs.YtnfdfiholcelaaaGreatDoor
open Go.RowKit Plain Tryz
variable {B g n:Nat}{l:List Rd}{u:World}
theorem OwnL.later{v:Value}{u':World}(h:OwnL B v l u)(hb:Bw u u'):OwnL B v l u':=by
 refine⟨⟨h.1.1,?_⟩,h.2⟩
 rcases h.1.2 with h'|⟨g,cap,cur,e,h1,h2,h3⟩
 · exact .inl h'
 · exact .inr ⟨g,cap,cur,e,h1,(hb.block g (Array.getElem?_eq_some_iff.1 h2).1).trans h2,h3⟩
theorem encL_set:∀(l:List Rd) (n:Nat) (r:Rd),n<l.length→encL (l.set n r)=((((encL l).set (n*4) (Vi r.1)).set (n*4+1) (Vi r.2.1)).set (n*4+2) (Vi r.2.2.1)).set (n*4+3) (Vi r.2.2.2)
 |[],n,r,h=>by simp at h
 |y::t,0,r,_=>by simp[encL,encR]
 |y::t,n+1,r,h=>by
  have ih:=encL_set t n r (by simpa using h)
  show encR y++encL (t.set n r)=_
  rw[ih]
  show _=((((encR y++encL t).set ((n+1)*4) _).set ((n+1)*4+1) _).set ((n+1)*4+2) _).set ((n+1)*4+3) _
  have e:(n+1)*4=n*4+1+1+1+1:=by omega
  rw[e]
  rfl
theorem N5{W:World}{o:Nat}{cur:Array Value}{t:TypeId}{fr:Nat×Nat}(v:Value)(h:W.heap[g]?=some (.cells cur t fr)):(W.setCell (Ad g o) v).heap[g]?=some (.cells (cur.setIfInBounds o v) t fr):=by
 obtain⟨hlt,hk⟩:=Array.getElem?_eq_some_iff.1 h
 show(W.heap.modify g _)[g]?=_
 rw[Array.getElem?_eq_getElem (by rw[Array.size_modify];exact hlt),Array.getElem_modify_self,hk]
 rfl
theorem OwnL.set{cp:Nat}{r1 r2 r3 r4:Int}(h:OwnL B (.slice (some (Ad g 0)) l.length cp) l u)(hn:n<l.length):
 OwnL B (.slice (some (Ad g 0)) l.length cp) (l.set n (r1,r2,r3,r4)) ((((u.setCell (Ad g (n*4)) (Vi r1)).setCell (Ad g (n*4+1)) (Vi r2)).setCell (Ad g (n*4+2)) (Vi r3)).setCell (Ad g (n*4+3)) (Vi r4)):=by
 rcases h.1.2 with⟨h',_⟩|⟨g',cap,cur,e,h1,h2,h3,h4,h5,h6⟩
 · simp at h'
 · simp only[Value.slice.injEq,Option.some.injEq,Addr.mk.injEq,and_true,true_and] at e;obtain⟨rfl,rfl⟩:=e;have hh:=N5 (o:=n*4+3) (Vi r4) (N5 (o:=n*4+2) (Vi r3) (N5 (o:=n*4+1) (Vi r2) (N5 (o:=n*4) (Vi r1) h2)));refine⟨⟨by rw[Xf,List.length_set],.inr ⟨g,cp,_,by rw[List.length_set],h1,hh,by rw[List.length_set];exact h3,h4,by simp[h5],?_⟩⟩,?_⟩
   · rw[List.length_set,encL_set l n _ hn];simp only[Array.toList_setIfInBounds];rw[List.take_set,List.take_set,List.take_set,List.take_set,h6]
   · constructor
     · intro h;simp at h
     · intro h;have:=congrArg List.length h;simp at this;subst this;simp at hn
theorem rds_cells{w:World}(h:∀k,k<l.length→Q4 w g (k*4) (rat l k)){m:Nat}(hm:n+m≤l.length):
 ∀j u,(encL ((l.drop n).take m))[j]?=some u→w.cell? ((⟨g,n*4,none⟩:Addr).add j)=some u:=by
 intro j u hj
 have hlen:((l.drop n).take m).length=m:=by simp;omega
 have hjl:j<m*4:=by
  have:=(List.getElem?_eq_some_iff.1 hj).1;rw[Xf,hlen] at this;exact this
 rw[encL_get _ _ (by rw[hlen];exact hjl)] at hj
 have hr:rat ((l.drop n).take m) (j/4)=rat l (n+j/4):=by
  have h1:j/4<m:=by omega
  rw[rat_eq (by rw[hlen];exact h1),rat_eq (by omega)]
  simp
 rw[hr] at hj;obtain⟨c0,c1,c2,c3⟩:=h (n+j/4) (by omega)
 have ha:(⟨g,n*4,none⟩:Addr).add j=⟨g,(n+j/4)*4+j%4,none⟩:=by
  rw[Addr.add_lit,show n*4+j=(n+j/4)*4+j%4 by omega]
 rw[ha]
 rcases(show j%4=0∨j%4=1∨j%4=2∨j%4=3 by omega) with e|e|e|e<;>rw[e] at hj⊢<;>simp[encR] at hj<;>subst hj<;>assumption
theorem Uv(l:List Rd):∀u∈encL l,u.oneCell'=true:=by
 intro u hu;obtain⟨r,_,h⟩:=List.mem_flatMap.1 hu;exact X3 r u h
theorem nil_own(B:Nat)(w:World):w.ownsRow B 161 4 (.slice none 0 0) 0 []:=⟨rfl,.inl ⟨rfl,rfl⟩⟩
theorem Ziq(l:List Rd)(n:Nat):(l.drop n).take (l.length-n)=l.drop n:=by
 rw[List.take_of_length_le];simp
end Go.Proofs.YtnfdfiholcelaaaGreatDoor
