import Derived.Deep.AppendLies
import Derived.Deep.AppendSrc
import Derived.Test.YtnfdfiholcelaaaGreatDoorJp01
set_option maxRecDepth 100000
set_option maxHeartbeats 20000000
namespace Go.Proofs.YtnfdfiholcelaaaGreatDoor
open Go.RowKit Tryz
variable {P:Program}{base n size:Nat}{s:Value}{t:TypeId}{xs:List Value}
theorem Zgu{w:World}{ty e:TypeId}{i:TypeInfo}(ht:P.underlying t=some (.slice e))(hi:P.info? e=some i)(h:w.ownsRow base e size s n xs)(p:Option Addr)(c:Nat):
 (Builtin.append_ #[t,t] ty #[s,.slice p 0 c]).run P w=.ok s w:=by
 have hc:Src P i.size t (.slice p 0 c) 0 [] w:=by
  cases p with
  |none=>exact Src.ofNil w ht c
  |some a=>exact Src.ofSlice w ht a 0 c [] (by simp) (by simp) (by simp)
 rcases h.2 with⟨rfl,_⟩|⟨g,cap,cur,rfl,_,_,hn,_⟩
 · simp[Builtin.append_,run_underlying ht,sizeOf,typeInfo,hi,hc.len,hc.cells]
 · exact run_append_room_src w t t ty e i ht hi g 0 n cap _ 0 [] hc (by omega) (by simp) (by simp)
def Lay(u:World)(p:Option Addr)(ys:List Value):Prop:=ys=[]∨∃g off,p=some (Ad g off)∧u.rangeAt g off ys
theorem Na{ops:Array Oper}{rest:List Oper}{o:Oper}{a:Act}{u:World}{Q:Exit→Act→World→Prop}{e:Nat}{i:TypeInfo}{z:Value}{bytes:Nat}(sO xO:Operand)(ho:o.op=.call { callee:=.builtin .append,args:=#[sO,xO],argTypes:=#[t,t] })(ht:P.underlying t=some (.slice e))(hi:P.info? e=some i)(hz:i.zero=some z)(hsize:i.size=size)(hby:i.bytes=bytes){p:Option Addr}{m c:Nat}{ys:List Value}(hx:a.eval xO=.slice p m c)(hown:u.ownsRow base e size s n xs)(hy:Lay u p ys)(hl:ys.length=m*size)(h1:∀v∈ys,v.oneCell'=true)(hm:n+m≤maxLen)(hbytes:(n+m)*bytes≤140737488355328)(hbase:base≤u.heap.size)(h:∀s' u',u'.ownsRow base e size s' (n+m) (xs++ys)→u.grownBy u' s.ownBlock→wpList P ops Q rest (a.put o.dst s') u')(hsz:0<size:=by decide)(hzs:z.cells.size=size:=by rfl)(hgd:o.guard=none:=by rfl)(hs:a.eval sO=s:=by rfl):wpList P ops Q (o::rest) a u:=by
 by_cases h0:m=0
 · subst h0
   have hys:ys=[]:=by simpa using hl
   subst hys;refine wpList_plain hgd fun _ hK=>?_
   unfold Oper.wp execOp
   simp only[ho,resolve,invoke,builtin,Sem.run_bind,Sem.run_pure,Result.andThen_ok,List.map_toArray,List.map_cons,List.map_nil,hs,hx,Zgu ht hi hown p c];exact hK _ _ (h s u (by simpa using hown) (World.grownBy.refl _ _))
 · have hm':0<m:=by omega
   rcases hy with hy|⟨g,off,rfl,hr⟩
   · subst hy;have:0<m*size:=Nat.mul_pos hm' hsz
     simp at hl
     omega
   · exact wpList_append_lies u hgd sO xO t ho base e i z size bytes ht hi hz hsize hby hzs hsz s n xs hs hown ⟨g,off,none⟩ m c ys hx hl (fun j v hj=>by rw[Addr.add_lit];exact hr j v hj) h1 hm' hm hbytes hbase _ rfl
      (fun g' cap w' h2 h3 _ _=>h _ _ h2 h3)
end Go.Proofs.YtnfdfiholcelaaaGreatDoor
