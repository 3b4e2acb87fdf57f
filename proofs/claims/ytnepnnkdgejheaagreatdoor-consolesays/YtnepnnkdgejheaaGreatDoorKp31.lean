import Derived.Laws.IdiomCopy
import Derived.Tactics
import Derived.Test.YtnepnnkdgejheaaGreatDoorKp29
import Derived.Test.YtnepnnkdgejheaaGreatDoorKp30
set_option maxRecDepth 100000
set_option maxHeartbeats 20000000
namespace Go.Proofs.YtnepnnkdgejheaaGreatDoor
open Go.RowKit Plain Tryz
variable {B K cap i k:Nat}{C:CR}{L:List Sv}{P:Program}{Q:Exit->Act->World->Prop}{S:FS}{a:Act}{l:List Rd}{op:Oper}{ops:Array Oper}{rest:List Oper}{sv:Nat->List Sv}{u u' w wz:V6}
def crE(C:CR):Int:=AA (eCr (C.a 0 0) (C.a 0 1) (C.a 0 2) (C.a 0 3) (C.a 0 4) (C.a 0 5) (C.a 0 6) (C.a 0 7) (C.a 0 8) (C.a 0 9) (C.a 0 10) (C.a 0 11) (C.a 0 14) (C.al 0) (C.zl 0) (C.a 1 0) (C.a 1 1) (C.a 1 2) (C.a 1 3) (C.a 1 4) (C.a 1 5) (C.a 1 6) (C.a 1 7) (C.a 1 8) (C.a 1 9) (C.a 1 10) (C.a 1 11) (C.a 1 14) (C.al 1) (C.zl 1) C.c0 C.c1) 13
def eSt(C:CR)(S:FS)(sv:Nat->List Sv)(k:Nat):Int:=[clE S.n,Yk (S.bk 0).b (S.bk 0).l,Yk (S.bk 1).b (S.bk 1).l,Yk (S.bk 2).b (S.bk 2).l,csE C 0 (sv 0),chE C 0 (S.hd 0),csE C 1 (sv 1),chE C 1 (S.hd 1)].getD k 0
def stE(C:CR)(S:FS)(sv:Nat->List Sv):Int:=if crE C=0 then(if AA (eSt C S sv) 8=0 then 0 else 3) else crE C
def CrL(u:V6)(C:CR):Prop:=∀i,i<2->(C.al i).length<=9223372036854775807/\(C.zl i).length<=9223372036854775807/\(C.al i).length<=C.cn i/\Lst u (C.p i) (C.al i)/\Lst u (C.q i) (C.zl i)
theorem CrL.lq(h:CrL u C)(y:Bw u u'):CrL u' C:=fun i hi=>⟨(h i hi).1,(h i hi).2.1,(h i hi).2.2.1,(h i hi).2.2.2.1.lq y,(h i hi).2.2.2.2.lq y⟩
def SvL(u:V6)(S:FS)(sv:Nat->List Sv):Prop:=∀i,i<2->S.sn i=(sv i).length/\(sv i).length<=9/\VLs u (S.sp i) (sv i)
theorem SvL.lq(h:SvL u S sv)(y:Bw u u'):SvL u' S sv:=fun i hi=>⟨(h i hi).1,(h i hi).2.1,(h i hi).2.2.lq y⟩
def axE(C:CR)(i:Nat):Nat->Int:=eAx (C.a i 0) (C.a i 1) (C.a i 2) (C.a i 3) (C.a i 4) (C.a i 5) (C.a i 6) (C.a i 7) (C.a i 8) (C.a i 9) (C.a i 10) (C.a i 11) (C.a i 14) (C.al i) (C.zl i)
theorem Xy(h:crE C=0)(hi:i<2)(hk:k<6):axE C i k=0:=by
 have a:=DH h
 rcases Qtw i with rfl|rfl
 . have:=a k (by omega)
   unfold eCr at this
   rwa[if_pos hk] at this
 . have:=a (k+6) (by omega)
   unfold eCr at this
   rwa[if_neg (by omega),if_pos (by omega),Nat.add_sub_cancel] at this
theorem Jed(h:crE C=0):Ya C.c0 C.c1=0:=DH h 12 (by omega)
theorem PH{T R S C:Int}(h:arE T R S C=0):arB T R S C=true:=by
 unfold arE at h
 split at h
 . assumption
 . cases h
theorem YD(h:crE C=0)(hl:CrL u C)(hi:i<2):AxC u C i:=by
 have h0:=Uv (show rgE (C.a i 4) (C.a i 3)=0 from Xy h hi (k:=0) (by omega));have h2:=Yh (PH (show arE (C.a i 5) (C.a i 6) (C.a i 7) (C.a i 10)=0 from Xy h hi (k:=2) (by omega)));exact⟨h0.1,h2.1,h0.2,⟨h2.2.2.1.1,by omega⟩,⟨h2.2.1.1,by omega⟩,(hl i hi).1,(hl i hi).2.1,(hl i hi).2.2.1,(hl i hi).2.2.2.1,(hl i hi).2.2.2.2⟩
theorem Jrn(k:Nat)(hk:k<8)(args:Array Value)(w:V6):(callFunc (gSt k) args).run prog w=.ok (.enter (gSt k) args) w:=by
 rcases(show k=0\/k=1\/k=2\/k=3\/k=4\/k=5\/k=6\/k=7 by omega) with rfl|rfl|rfl|rfl|rfl|rfl|rfl|rfl<;>kernel_rfl
theorem YE{Bs:Nat}{b x y:Nat->Nat}(h0:crE C=0)(hs:SkH w C S Bs b x y)(hl:CrL w C)(h:SvL w S sv):∀k,k<8->∀u,Bw w u->Va (gSt k) (Jec Bs b x y k) u fun r m=>r=.returned (A8 (eSt C S sv k))/\Bw u m:=by
 intro k hk u j;have hs:=hs.lq j;have hl:=hl.lq j;have h:=h.lq j
 rcases(show k=0\/k=1\/k=2\/k=3\/k=4\/k=5\/k=6\/k=7 by omega) with rfl|rfl|rfl|rfl|rfl|rfl|rfl|rfl
 . exact Jl4 hs.st
 . exact PG (S.bk 0) (hs.bk 0 (by omega))
 . exact PG (S.bk 1) (hs.bk 1 (by omega))
 . exact PG (S.bk 2) (hs.bk 2 (by omega))
 . exact Jbi (i:=0) (by omega) (hs.ax 0 (by omega)) hs.st (hs.ix 0 (by omega)) (h 0 (by omega)).1 (h 0 (by omega)).2.1 (h 0 (by omega)).2.2
 . exact Jbj (i:=0) (by omega) (hs.ax 0 (by omega)) hs.st (hs.ix 0 (by omega)) (YD h0 hl (by omega))
 . exact Jbi (i:=1) (by omega) (hs.ax 1 (by omega)) hs.st (hs.ix 1 (by omega)) (h 1 (by omega)).1 (h 1 (by omega)).2.1 (h 1 (by omega)).2.2
 . exact Jbj (i:=1) (by omega) (hs.ax 1 (by omega)) hs.st (hs.ix 1 (by omega)) (YD h0 hl (by omega))
theorem N5(C:CR)(w:V6)(h:GV w)(hl:CrL w C):Va 56 #[.agg (crL C).toArray] w (Rt w (A8 (crE C))):=
 Zjb (C.a 0 0) (C.a 0 1) (C.a 0 2) (C.a 0 3) (C.a 0 4) (C.a 0 5) (C.a 0 6) (C.a 0 7) (C.a 0 8) (C.a 0 9) (C.a 0 10) (C.a 0 11) (C.a 0 14) (C.p 0) (C.q 0) (C.al 0) (C.zl 0) (C.cn 0) (C.cm 0) (C.a 1 0) (C.a 1 1) (C.a 1 2) (C.a 1 3) (C.a 1 4) (C.a 1 5) (C.a 1 6) (C.a 1 7) (C.a 1 8) (C.a 1 9) (C.a 1 10) (C.a 1 11) (C.a 1 14) (C.p 1) (C.q 1) (C.al 1) (C.zl 1) (C.cn 1) (C.cm 1) C.c0 C.c1 w h (hl 0 (by omega)) (hl 1 (by omega))
theorem KE(C:CR)(S:FS)(sv:Nat->List Sv)(w:V6)(X:GV w)(hl:CrL w C)(G:SvL w S sv):
 Va 247 #[.agg (crL C).toArray,.agg (stL S).toArray] w (Rt w (A8 (stE C S sv))):=by
 have ha:=fun u (h:Bw w u)=>N5 C u (X.lq h) (hl.lq h);have K:Hd (Blk 110 ((w.alloc (.cells (crL C).toArray 41)).alloc (.cells (stL S).toArray 110)) (w.heap.size+1) (stL S)):=Za (by have:=Blk.new (w.alloc (.cells (crL C).toArray 41)) 110 (stL S);rw[World.size_alloc] at this;exact this);have R:=Za ((Blk.new w 41 (crL C)).lq (Zb _ (.cells (stL S).toArray 110)));have m:=Za (Zc (Zb w (.cells (crL C).toArray 41)) (Zb _ (.cells (stL S).toArray 110)));have H:Hd (World.rangeAt ((w.alloc (.cells (crL C).toArray 41)).alloc (.cells (stL S).toArray 110)) w.heap.size 0 (crL C)):=Za R.o.range
 by_cases h0:crE C=0
 . have hd:=KD C S;have T:Hd (stE C S sv=if AA (eSt C S sv) 8=0 then 0 else 3):=Za (by unfold stE;rw[if_pos h0]);rw[T.o];simp only[h0,Z0] at ha;have Q:=Za (fun(u v:V6) (h:Bw w u) (g cap Z:Nat) (b x y:Nat->Nat) (hc:LH u (some (Ad g 0)) 8 gSt (Jec Z b x y)) (hs:SkH u C S Z b x y)=>Ziz (some (Ad g 0)) 8 cap gSt (Jec Z b x y) (eSt C S sv) (by decide) u hc (X.lq h) Jrn (fun k hk _=>YE h0 hs (hl.lq h) (G.lq h) k hk));clear X hl G
   by_cases hf:AA (eSt C S sv) 8=0
   . rw[if_pos hf,Z0];simp only[hf,Z0] at Q
     go_enter func247,ntmps247
     go_upto_region 4 with(first
      |(refine Lm 41 (.tmp 2) rfl w.heap.size 0 (crL C) H.o underlying41 Zr ?_)
      |(go_at_call 56;refine Sb (ha _ m.o) fun M j=>?_;have m:=Za (Zc m.o j);have H:=Za (R.o.lq j).range;have J:=Za (K.o.lq j).range;clear j))
     go_wp2_with (first
      |(refine Lm 41 (.tmp 2) rfl w.heap.size 0 (crL C) H.o underlying41 Zr ?_)
      |(refine Lm 110 (.tmp 3) rfl (w.heap.size+1) 0 (stL S) J.o underlying110 Yj ?_)
      |(go_at_call 280;refine(hd _).mono ?_;rintro e N ⟨g,cap,Z,b,x,y,rfl,hc,hs,j⟩;have m:=Za (Zc m.o j);have Y:=Za (And.intro hc hs);clear j hc hs)
      |(go_at_call 103;refine Sb (Q.o _ w m.o _ _ _ _ _ _ Y.o.1 Y.o.2) fun P j=>?_;have m:=Za (Zc m.o j);clear j))
     go_ret;exact⟨rfl,m.o⟩
   . rw[if_neg hf,Zv (by decide)];simp only[Zv hf] at Q;generalize AA (eSt C S sv) 8=fe at*
     go_enter func247,ntmps247
     go_upto_region 4 with(first
      |(refine Lm 41 (.tmp 2) rfl w.heap.size 0 (crL C) H.o underlying41 Zr ?_)
      |(go_at_call 56;refine Sb (ha _ m.o) fun M j=>?_;have m:=Za (Zc m.o j);have H:=Za (R.o.lq j).range;have J:=Za (K.o.lq j).range;clear j))
     go_wp2_with (first
      |(refine Lm 41 (.tmp 2) rfl w.heap.size 0 (crL C) H.o underlying41 Zr ?_)
      |(refine Lm 110 (.tmp 3) rfl (w.heap.size+1) 0 (stL S) J.o underlying110 Yj ?_)
      |(go_at_call 280;refine(hd _).mono ?_;rintro e N ⟨g,cap,Z,b,x,y,rfl,hc,hs,j⟩;have m:=Za (Zc m.o j);have Y:=Za (And.intro hc hs);clear j hc hs)
      |(go_at_call 103;refine Sb (Q.o _ w m.o _ _ _ _ _ _ Y.o.1 Y.o.2) fun P j=>?_;have m:=Za (Zc m.o j);clear j))
     go_ret;exact⟨rfl,m.o⟩
 . have T:Hd (stE C S sv=crE C):=Za (by unfold stE;rw[if_neg h0]);rw[T.o,Zv h0];simp only[Zv h0] at ha;generalize crE C=ce at *;clear X hl G
   go_enter func247,ntmps247
   go_wp2_with (first
    |(refine Lm 41 (.tmp 2) rfl w.heap.size 0 (crL C) H.o underlying41 Zr ?_)
    |(go_at_call 56;refine Sb (ha _ m.o) fun M j=>?_;have m:=Za (Zc m.o j);clear j))
   go_ret;exact⟨rfl,m.o⟩
theorem MA(w:V6)(dT e H elem:TypeId)(b o n dCap:Nat)(a:Addr)(sCap y:Nat)(h:List Value)(Z:P.underlying dT=some (.slice elem))(hs:(P.info? elem).map (·.size)=some y)(hn:h.length=n*y)(ha:∀j v,h[j]?=some v->w.cell? (a.add j)=some v)(hc:∀j,j<h.length->(w.cell? (Ad b (o+j))).isSome=true)(Y:∀j,j<h.length->w.frozen? (Ad b (o+j))=false)(h1:∀v∈h,v.oneCell'=true):
 (Builtin.copy_ #[dT,e] H #[Vf b o n dCap,.slice (some a) n sCap]).run P w=.ok (goInt n) (w.setCells b o h):=by
 have hl:=run_loadCells_list (P:=P) w a h ha;have X:=run_storeCells_cells (P:=P) b o h 0 w (by simpa using hc) (by simpa using Y) h1
 cases m:P.info? elem with
 |none=>simp[m] at hs
 |some i=>
  have hi:i.size=y:=by simpa[m] using hs
  simp[Builtin.copy_,run_underlying Z,Builtin.lenOf,Builtin.firstCells,sizeOf,typeInfo,m,hi,<-hn,hl,X]
theorem Zhk{o:Oper}(hc:o.guard=none)(d s:Operand)(dT Z:TypeId)(ho:o.op=.call { callee:=.builtin .copy,args:=#[d,s],argTypes:=#[dT,Z] })(elem:TypeId)(X:P.underlying dT=some (.slice elem))(m:Nat)(G:(P.info? elem).map (·.size)=some m)(g off n dCap:Nat)(e:Addr)(sCap:Nat)(hd:a.eval d=Vf g off n dCap)(hs:a.eval s=.slice (some e) n sCap)(y:List Value)(hn:y.length=n*m)(ha:∀j v,y[j]?=some v->w.cell? (e.add j)=some v)(Y:w.there g off y.length)(h1:∀v∈y,v.oneCell'=true)(h:wpList P ops Q rest (a.put o.dst (goInt n)) (w.setCells g off y)):wpList P ops Q (o::rest) a w:=by
 refine wpList_plain hc fun K hK=>?_;have R:=MA (P:=P) w dT Z o.type elem g off n dCap e sCap m y X G hn ha (fun j H=>(Y j H).1) (fun j H=>(Y j H).2) h1
 unfold Oper.wp
 simp[execOp,ho,resolve,invoke,builtin,hd,hs,R,Result.andThen]
 exact hK _ _ h
theorem Mv(L:List Sv){r:Nat}(hk:k<L.length)(h:r<3):(svL L)[k*3+r]?=[Vi (A0 L k).1,Vi (A0 L k).2.1,.bool (A0 L k).2.2][r]?:=by
 rw[<-K5 L k hk,List.getElem?_take,if_pos h,List.getElem?_drop]
theorem Jbn{ad:Addr}(h1:1<=L.length)(h:VLs u (some ad) L):∀j v,(svL L)[j]?=some v->u.cell? (ad.add j)=some v:=by
 intro j v y
 rcases h with h|⟨b,off,h,hc⟩
 . subst h;simp at h1
 . simp only[Option.some.injEq] at h;subst h
   have ha:j<L.length*3:=by
    have:=(List.getElem?_eq_some_iff.1 y).1
    rwa[Wy] at this
   have hk:j/3<L.length:=by omega
   have m:j%3<3:=by omega
   have e:j=j/3*3+j%3:=by omega
   rw[e,Mv L hk m] at y;have c:=hc (j/3) hk;rw[Addr.add_lit]
   rcases(show j%3=0\/j%3=1\/j%3=2 by omega) with h3|h3|h3
   . rw[h3] at y
     have:v=Vi (A0 L (j/3)).1:=by simpa using y.symm
     rw[this,show off+j=off+j/3*3 by omega];exact c.1
   . rw[h3] at y
     have:v=Vi (A0 L (j/3)).2.1:=by simpa using y.symm
     rw[this,show off+j=off+j/3*3+1 by omega];exact c.2.1
   . rw[h3] at y
     have:v=.bool (A0 L (j/3)).2.2:=by simpa using y.symm
     rw[this,show off+j=off+j/3*3+2 by omega];exact c.2.2
theorem PI:∀(L:List Sv),∀v∈svL L,v.oneCell'=true
 |[],_,h=>by cases h
 |s::r,v,h=>by
  simp only[svL,List.mem_cons] at h
  rcases h with rfl|rfl|rfl|h
  . rfl
  . rfl
  . rfl
  . exact PI r v h
theorem U1:∀(j y:List Value),y.length=j.length->B8 y 0 j=j:=by
 have key:∀(j pre y:List Value),y.length=j.length->B8 (pre++y) pre.length j=pre++j:=by
  intro j
  induction j with
  |nil=>intro pre y h;have:y=[]:=List.eq_nil_of_length_eq_zero (by simpa using h);subst this;rfl
  |cons v r ih=>
   intro pre y h
   cases y with
   |nil=>simp at h
   |cons c y=>
    show B8 ((pre++c::y).set pre.length v) (pre.length+1) r=pre++v::r
    have e:(pre++c::y).set pre.length v=(pre++[v])++y:=by simp
    rw[e];have:=ih (pre++[v]) y (by simpa using h)
    simpa using this
 intro j y h
 simpa using key j [] y h
theorem Jbo(w:V6)(t:TypeId)(x:Array Value):Blk t (w.alloc (.cells x t)) w.heap.size x.toList:=by
 have:=Blk.new w t x.toList
 rwa[Array.toArray_toList] at this
theorem Jef(S:FS):((stL S).drop 21).take 2=spL S:=rfl
theorem Yb(h:stE C S sv=0):crE C=0/\∀k,k<8->eSt C S sv k=0:=by
 unfold stE at h
 split at h
 . rename_i h0
   split at h
   . rename_i h1;exact⟨h0,DH h1⟩
   . cases h
 . rename_i h0;exact absurd h h0
theorem Xm(h:stE C S sv=0)(hi:i<2):((sv i).length:Int)=C.a i 4/\seU C i (sv i) (sv i).length=0:=by
 have:csE C i (sv i)=0:=by
  rcases Qtw i with rfl|rfl
  . exact(Yb h).2 4 (by omega)
  . exact(Yb h).2 6 (by omega)
 unfold csE at this
 split at this
 . rename_i e;exact⟨e,this⟩
 . cases this
theorem CD:∀n,seU C i L n=0->∀k,k<n->svE (C.a i 5) (C.a i 6) (C.a i 7) (C.a i 10) (A0 L k).1 (A0 L k).2.1 (A0 L k).2.2=0
 |0,_,k,hk=>by omega
 |n+1,h,k,hk=>by
  rw[seU] at h
  split at h
  . rename_i h0
    by_cases e:k=n
    . subst e;exact h
    . exact CD n h0 k (by omega)
  . rename_i h0;exact absurd h h0
theorem KH(h:stE C S sv=0)(hi:i<2):2<=(sv i).length/\(sv i).length<=4:=by
 have a:=(Xm h hi).1;have b:=Uv (show rgE (C.a i 4) (C.a i 3)=0 from Xy (Yb h).1 hi (k:=0) (by omega))
 omega
theorem YF{a:V8}(h:Rds u a l):∀g,a=some (Ad g 0)->l≠[]->g<u.heap.size:=by
 intro g e hl
 rcases h with h|⟨b,rfl,hc⟩
 . exact absurd h hl
 . simp only[Option.some.injEq,Addr.mk.injEq] at e;obtain⟨rfl,_⟩:=e;exact World.block_lt_of_cell? u ⟨b,_,none⟩ (hc 0 (List.length_pos_iff.2 hl)).1
theorem Jh1(d s:Operand)(dT y:TypeId)(_ho:op.op=.call { callee:=.builtin .copy,args:=#[d,s],argTypes:=#[dT,y] })(h:wpList P ops Q (op::rest) a w):wpList P ops Q (op::rest) a w:=h
theorem Jpe(S:FS)(w:V6):(Instr.index 105 (.agg (spL S).toArray) (Vi 0)).run prog w=.ok (.slice (S.sp 0) (S.sn 0) (S.sc 0)) w:=by kernel_rfl
theorem Jpf(S:FS)(w:V6):(Instr.index 105 (.agg (spL S).toArray) (Vi 1)).run prog w=.ok (.slice (S.sp 1) (S.sn 1) (S.sc 1)) w:=by kernel_rfl
theorem UD{a:V8}(h1:1<=L.length)(h:VLs u a L):∃p,a=some p:=by
 rcases h with h|⟨b,off,h,_⟩
 . subst h;simp at h1
 . exact⟨_,h⟩
theorem EC(n:Nat):(madeCells #[Vi 0,Vi 0,.bool false] (n*3)).toList.length=n*3:=by simp[madeCells]
theorem Jh2(S:FS)(C:CR)(p:V8)(n c:Nat)(w:V6):(Instr.build 315 #[(0,.agg (stL S).toArray),(1,.agg (crL C).toArray),(2,.slice p n c)]).run prog w=.ok (.agg (frL S C (.slice p n c)).toArray) w:=by kernel_rfl
theorem KI(S:FS)(C:CR)(p:V8)(n c:Nat)(x y z:Operand)(ha:op.guard=none)(ho:op.op=.build 315 #[(0,x),(1,y),(2,z)])(hx:a.eval x=.agg (stL S).toArray)(hy:a.eval y=.agg (crL C).toArray)(j:a.eval z=.slice p n c)(h:wpList prog ops Q rest (a.put op.dst (.agg (frL S C (.slice p n c)).toArray)) w):wpList prog ops Q (op::rest) a w:=
 wpList_plain ha fun _ hK=>by
  unfold Oper.wp execOp
  simp only[ho,List.map_toArray,List.map_cons,List.map_nil,hx,hy,j,Sem.run_bind,Jh2,Result.andThen_ok];exact hK _ _ h
theorem UE(C:CR)(S:FS)(sv:Nat->List Sv)(ws:V9)(aw:V8)(cw:Nat)(w:V6)(hg:GV w)(hl:CrL w C)(hv:SvL w S sv)(hw:Wds w aw ws)(hk:ws.length<=64)(ha:(gat A2 ws).length<=1000)(h0:stE C S sv=0):
 Va 203 #[.agg (crL C).toArray,.agg (stL S).toArray,.slice aw ws.length cw] w fun e w'=>∃B S' a cap G,e=.returned (.tuple #[Ve B 0,.nilIface])/\(S'.bk=S.bk/\S'.hd=S.hd/\S'.n=S.n)/\FR w.heap.size w w' B S' C a cap (gat A2 ws) sv G:=by
 have hm:=fun u (h:Bw w u)=>KE C S sv u (hg.lq h) (hl.lq h) (hv.lq h);simp only[h0,Z0] at hm;have hu:=fun u (h:Bw w u)=>JW aw cw ws hk u (hw.lq h);have J:Hd (Blk 110 ((w.alloc (.cells (crL C).toArray 41)).alloc (.cells (stL S).toArray 110)) (w.heap.size+1) (stL S)):=Za (by have:=Blk.new (w.alloc (.cells (crL C).toArray 41)) 110 (stL S);rw[World.size_alloc] at this;exact this);have E:=Za ((Blk.new w 41 (crL C)).lq (Zb _ (.cells (stL S).toArray 110)));have H:=Za (Zc (Zb w (.cells (crL C).toArray 41)) (Zb _ (.cells (stL S).toArray 110)));have A:Hd (World.rangeAt ((w.alloc (.cells (crL C).toArray 41)).alloc (.cells (stL S).toArray 110)) w.heap.size 0 (crL C)):=Za E.o.range;have W:Hd (World.rangeAt ((w.alloc (.cells (crL C).toArray 41)).alloc (.cells (stL S).toArray 110)) (w.heap.size+1) 0 (stL S)):=Za J.o.range;have R:=Za hv;have O:=Za (fun i hi=>KH h0 (i:=i) hi);clear hg hl hv hw hk h0;generalize hz:gat A2 ws=l at*
 go_enter func203,ntmps203
 go_upto_region 7 with(first
  |(refine Lm 41 (.tmp 3) rfl w.heap.size 0 (crL C) A.o underlying41 Zr ?_)
  |(refine Lm 110 (.tmp 4) rfl (w.heap.size+1) 0 (stL S) W.o underlying110 Yj ?_)
  |(go_at_call 247;refine Sb (hm _ H.o) fun w1 N=>?_;have H:=Za (Zc H.o N);have E:=Za (E.o.lq N);have J:=Za (J.o.lq N);clear N)
  |(go_at_call 164;refine(hu _ H.o).mono ?_;rintro e D ⟨⟨v,rfl,ho⟩,N⟩;obtain⟨a,cap,rfl,hp⟩:=ho.rds;have m:=Za hp;have H:=Za (Zc H.o N);have E:=Za (E.o.lq N);have J:=Za (J.o.lq N);clear N ho hp))
 have A:=Za E.o.range;have W:=Za J.o.range
 go_upto_region 8 with(first
  |(refine Lm 41 (.tmp 3) rfl w.heap.size 0 (crL C) A.o underlying41 Zr ?_)
  |(refine Lm 110 (.tmp 4) rfl (w.heap.size+1) 0 (stL S) W.o underlying110 Yj ?_)
  |(refine KI S C a l.length cap (.tmp 30) (.tmp 31) (.tmp 32) rfl rfl rfl rfl rfl ?_))
 have F:=Za (YF m.o);have y:Hd (Blk 315 (D.alloc (.cells (frL S C (.slice a l.length cap)).toArray 315)) D.heap.size (frL S C (.slice a l.length cap))):=Za (Blk.new D _ _);have m:=Za (m.o.lq (Zb D (.cells (frL S C (.slice a l.length cap)).toArray 315)));have J:=Za (J.o.lq (Zb D (.cells (frL S C (.slice a l.length cap)).toArray 315)));have hh:=H.o.size;have H:=Za (Zc H.o (Zb D (.cells (frL S C (.slice a l.length cap)).toArray 315)));clear E A W;generalize D.alloc (.cells (frL S C (.slice a l.length cap)).toArray 315)=v0 at *;generalize D.heap.size=B at *;have Hp:=Za (J.o.sub 21 2);rw[Jef] at Hp;have hq:=Jpe S;have hr:=Jpf S;rw[(R.o 0 (by omega)).1] at hq;rw[(R.o 1 (by omega)).1] at hr;have hA:=Nb (sv 0).length (hn:=(R.o 0 (by omega)).2.1);have hB:=Nb (sv 1).length (hn:=(R.o 1 (by omega)).2.1);obtain⟨p0,hs⟩:=UD (by have:=(O.o 0 (by omega)).1;omega) (R.o 0 (by omega)).2.2;obtain⟨p1,ht⟩:=UD (by have:=(O.o 1 (by omega)).1;omega) (R.o 1 (by omega)).2.2;have Hr:=Za (R.o 0 (by omega)).2.2;have Hs:=Za (R.o 1 (by omega)).2.2;rw[hs] at hq Hr;rw[ht] at hr Hs;have hC:1<=(sv 0).length/\(sv 0).length<=9:=⟨by have:=(O.o 0 (by omega)).1;omega,(R.o 0 (by omega)).2.1⟩;have hD:1<=(sv 1).length/\(sv 1).length<=9:=⟨by have:=(O.o 1 (by omega)).1;omega,(R.o 1 (by omega)).2.1⟩;clear R O hs ht;generalize he:(sv 0).length=n0 at *;generalize hf:(sv 1).length=n1 at*
 go_upto_region 9 with(refine Lm 105 (.tmp 35) rfl (w.heap.size+1) 21 (spL S) Hp.o underlying105 Jbl ?_);clear Hp J;refine wp_loop_rounds 3 ?_;rw[rounds_succ]
 go_upto_region 11 with fail;have y:=Za (y.o.lq (Below.refl _ v0).drew);have m:=Za (m.o.lq (Below.refl _ v0).drew);have I:Hd (Bw w v0.drew):=Za (Zc H.o Vb);clear H;refine wp_region_held_drew (S:=fun u=>(Bw w u)) (by kernel_rfl) (I.o) (fun _=>?_);have Y:Hd ((Bw w v0.drew)):=Za (I.o);generalize v0.drew=Q at Y y m|-;refine Tq 0 Y.o ?_;simp only[Act.put,Ly];refine Tq 1 Y.o ?_;simp only[Act.put,Ly];refine Tq 2 Y.o ?_;simp only[Act.put,Ly];refine Tq 3 Y.o ?_;simp only[Act.put,Ly];refine Tq 5 Y.o ?_;simp only[Act.put,Ly];refine Tq 6 Y.o ?_;simp only[Act.put,Ly];refine Tq 7 Y.o ?_;simp only[Act.put,Ly];refine Ra 4 (fun K hK=>?_);go_simp;have Hm:=y;have T:=Za (Zc Y.o (Zb Q (.cells (madeCells #[Vi 0,Vi 0,.bool false] (n0*3)) 169)));have y:=Za (y.o.lq (Zb Q (.cells (madeCells #[Vi 0,Vi 0,.bool false] (n0*3)) 169)));have m:=Za (m.o.lq (Zb Q (.cells (madeCells #[Vi 0,Vi 0,.bool false] (n0*3)) 169)));have Z:=Za (Jbo Q 169 (madeCells #[Vi 0,Vi 0,.bool false] (n0*3)));have hc:=Hm.o.lt;generalize Q.alloc (.cells (madeCells #[Vi 0,Vi 0,.bool false] (n0*3)) 169)=X at T y m Z|-;generalize Q.heap.size=G0 at Z hc|-;refine hK.out _ _ T.o (fun _=>?_);clear hK K;refine Tq 8 T.o ?_;simp only[Act.put,Ly];refine Ra 9 (fun K hK=>?_);have L:=(y.o.cell (j:=21) rfl).1;have f1:=(y.o.cell (j:=21) rfl).2;go_simp;clear L f1;have P:=Za (Zo [(Vf G0 0 n0 n0)] 21 X T.o hh)
 have y:Hd (Blk 315 (X.setCells B 21 [(Vf G0 0 n0 n0)]) B (frL ({ S with sp:=upd S.sp 0 (some (Ad G0 0)),sn:=upd S.sn 0 n0,sc:=upd S.sc 0 n0 }:FS) C (.slice a l.length cap))):=by
  have h:=Blk.setCells [(Vf G0 0 n0 n0)] 21 X _ y.o;exact Za h
 have m:=Za (Xw (V:=B) (fun g e h=>by have:=F.o g e h;omega) [(Vf G0 0 n0 n0)] 21 X m.o);have Z:=Za (Blk.farCells (show G0≠B by omega) [(Vf G0 0 n0 n0)] 21 X Z.o);have U:X.setCell (Ad B 21) (Vf G0 0 n0 n0)=X.setCells B 21 [(Vf G0 0 n0 n0)]:=rfl;rw[U];clear U;generalize X.setCells B 21 [(Vf G0 0 n0 n0)]=u2 at P y m Z|-;refine hK.out _ _ P.o (fun _=>?_);clear hK K;clear T;refine Dn ?_;go_simp;have H:=P;clear P;generalize u2=x0 at H y m Z|-;clear I;refine Ek ?_;have L:x0.cell? (Ad B 21)=some (Vf G0 0 n0 n0):=(y.o.cell (j:=21) rfl).1
 go_wp2_with (refine Jh1 _ _ _ _ rfl ?_;refine Zhk rfl (.tmp 56) (.tmp 57) 104 104 rfl 169 underlying104 3 Wc G0 0 n0 n0 p0 (S.sc 0) rfl rfl (svL (sv 0)) (by rw[Wy,he]) (Jbn (by omega) (Hr.o.lq H.o)) (Z.o.there (by rw[Wy,he,EC];omega)) (PI _) ?_);clear L
 have Z:Hd (Blk 169 (World.setCells x0 G0 0 (svL (sv 0))) G0 (svL (sv 0))):=by
  have h:=Blk.setCells (svL (sv 0)) 0 x0 _ Z.o;rw[U1 _ _ (by rw[Wy,he,EC])] at h;exact Za h
 have y:=Za (Blk.farCells (show B≠G0 by omega) (svL (sv 0)) 0 x0 y.o);have m:=Za (Xw (V:=G0) (fun g e h=>by have:=F.o g e h;omega) (svL (sv 0)) 0 x0 m.o);have H:=Za (Zo (svL (sv 0)) 0 x0 H.o (show w.heap.size<=G0 by omega))
 have hx:B<G0:=by omega
 clear hc;generalize World.setCells x0 G0 0 (svL (sv 0))=v1 at *;rw[rounds_succ]
 go_upto_region 11 with fail;have y:=Za (y.o.lq (Below.refl _ v1).drew);have m:=Za (m.o.lq (Below.refl _ v1).drew);have Z:=Za (Z.o.lq (Below.refl _ v1).drew);have I:Hd (Bw w v1.drew):=Za (Zc H.o Vb);clear H;refine wp_region_held_drew (S:=fun u=>(Bw w u)) (by kernel_rfl) (I.o) (fun _=>?_);have Y:Hd ((Bw w v1.drew)):=Za (I.o);generalize v1.drew=Q at Y y m Z|-;refine Tq 0 Y.o ?_;simp only[Act.put,Ly];refine Tq 1 Y.o ?_;simp only[Act.put,Ly];refine Tq 2 Y.o ?_;simp only[Act.put,Ly];refine Tq 3 Y.o ?_;simp only[Act.put,Ly];refine Tq 5 Y.o ?_;simp only[Act.put,Ly];refine Tq 6 Y.o ?_;simp only[Act.put,Ly];refine Tq 7 Y.o ?_;simp only[Act.put,Ly];refine Ra 4 (fun K hK=>?_);go_simp;have Hq:=Z;have Hm:=y;have T:=Za (Zc Y.o (Zb Q (.cells (madeCells #[Vi 0,Vi 0,.bool false] (n1*3)) 169)));have y:=Za (y.o.lq (Zb Q (.cells (madeCells #[Vi 0,Vi 0,.bool false] (n1*3)) 169)));have m:=Za (m.o.lq (Zb Q (.cells (madeCells #[Vi 0,Vi 0,.bool false] (n1*3)) 169)));have Z:=Za (Z.o.lq (Zb Q (.cells (madeCells #[Vi 0,Vi 0,.bool false] (n1*3)) 169)));have M:=Za (Jbo Q 169 (madeCells #[Vi 0,Vi 0,.bool false] (n1*3)));have hc:=Hm.o.lt;have hj:=Hq.o.lt;generalize Q.alloc (.cells (madeCells #[Vi 0,Vi 0,.bool false] (n1*3)) 169)=X at T y m Z M|-;generalize Q.heap.size=G1 at M hc hj|-;refine hK.out _ _ T.o (fun _=>?_);clear hK K;refine Tq 8 T.o ?_;simp only[Act.put,Ly];refine Ra 9 (fun K hK=>?_);have L:=(y.o.cell (j:=22) rfl).1;have f1:=(y.o.cell (j:=22) rfl).2;go_simp;clear L f1;have P:=Za (Zo [(Vf G1 0 n1 n1)] 22 X T.o hh)
 have y:Hd (Blk 315 (X.setCells B 22 [(Vf G1 0 n1 n1)]) B (frL ({ S with sp:=upd (upd S.sp 0 (some (Ad G0 0))) 1 (some (Ad G1 0)),sn:=upd (upd S.sn 0 n0) 1 n1,sc:=upd (upd S.sc 0 n0) 1 n1 }:FS) C (.slice a l.length cap))):=by
  have h:=Blk.setCells [(Vf G1 0 n1 n1)] 22 X _ y.o;exact Za h
 have m:=Za (Xw (V:=B) (fun g e h=>by have:=F.o g e h;omega) [(Vf G1 0 n1 n1)] 22 X m.o);have M:=Za (Blk.farCells (show G1≠B by omega) [(Vf G1 0 n1 n1)] 22 X M.o);have Z:=Za (Blk.farCells (show G0≠B by omega) [(Vf G1 0 n1 n1)] 22 X Z.o);have U:X.setCell (Ad B 22) (Vf G1 0 n1 n1)=X.setCells B 22 [(Vf G1 0 n1 n1)]:=rfl;rw[U];clear U;generalize X.setCells B 22 [(Vf G1 0 n1 n1)]=u2 at P y m M Z|-;refine hK.out _ _ P.o (fun _=>?_);clear hK K;clear T;refine Dn ?_;go_simp;have H:=P;clear P;generalize u2=x1 at H y m M Z|-;clear I;refine Ek ?_;have L:x1.cell? (Ad B 22)=some (Vf G1 0 n1 n1):=(y.o.cell (j:=22) rfl).1
 go_wp2_with (refine Jh1 _ _ _ _ rfl ?_;refine Zhk rfl (.tmp 56) (.tmp 57) 104 104 rfl 169 underlying104 3 Wc G1 0 n1 n1 p1 (S.sc 1) rfl rfl (svL (sv 1)) (by rw[Wy,hf]) (Jbn (by omega) (Hs.o.lq H.o)) (M.o.there (by rw[Wy,hf,EC];omega)) (PI _) ?_);clear L
 have M:Hd (Blk 169 (World.setCells x1 G1 0 (svL (sv 1))) G1 (svL (sv 1))):=by
  have h:=Blk.setCells (svL (sv 1)) 0 x1 _ M.o;rw[U1 _ _ (by rw[Wy,hf,EC])] at h;exact Za h
 have y:=Za (Blk.farCells (show B≠G1 by omega) (svL (sv 1)) 0 x1 y.o);have m:=Za (Xw (V:=G1) (fun g e h=>by have:=F.o g e h;omega) (svL (sv 1)) 0 x1 m.o);have H:=Za (Zo (svL (sv 1)) 0 x1 H.o (show w.heap.size<=G1 by omega));have Z:=Za (Blk.farCells (show G0≠G1 by omega) (svL (sv 1)) 0 x1 Z.o)
 have hy:B<G1:=by omega
 clear hc;generalize World.setCells x1 G1 0 (svL (sv 1))=v2 at *;rw[rounds_succ];go_wp2_with fail;go_ret2;refine⟨B,({ S with sp:=upd (upd S.sp 0 (some (Ad G0 0))) 1 (some (Ad G1 0)),sn:=upd (upd S.sn 0 n0) 1 n1,sc:=upd (upd S.sc 0 n0) 1 n1 }:FS),a,cap,fun i=>if i=0 then G0 else G1,rfl,⟨rfl,rfl,rfl⟩,⟨y.o,m.o,H.o,hh,fun g e h=>by have:=F.o g e h;omega,fun i hi=>?_,?_,ha,fun b h1 _ _ _=>H.o.block b h1⟩⟩
 . rcases Qtw i with rfl|rfl
   . exact⟨rfl,he.symm,Z.o,by show w.heap.size<=G0;omega,by show G0≠B;omega,fun g e h=>by have:=F.o g e h;show g≠G0;omega⟩
   . exact⟨rfl,hf.symm,M.o,by show w.heap.size<=G1;omega,by show G1≠B;omega,fun g e h=>by have:=F.o g e h;show g≠G1;omega⟩
 . show G0≠G1
   omega
theorem GP{a:V8}{G:Nat->Nat}(X:FR K wz w B S C a cap l (sv) G)(i:Nat)(hi:i<2)(Z:AP K wz C S l sv i):
 Va 254 #[Ve B 0,Vi i] w fun e w'=>e=.returned .nilIface/\FR K wz w' B ({ S with hd:=upd S.hd i (hoM C i (S.hd i) (skI l i) (S.bk i).l (S.bk 2).l S.n (sv i)) }:FS) C a cap l (upd sv i (svM C i (S.hd i) (skI l i) (S.bk i).l (S.bk 2).l S.n (sv i))) G:=by
 have hL:=fun u (h:Bw w u)=>Jo5 (X.lq h) i hi (by have:=Z.n4;omega) Z.is Z.h4 Z.h5 Z.h3 Z.h7 Z.h6;have hM:=M9 (C.a i 0) (C.a i 1) (C.a i 2) (C.a i 3) (C.a i 4) (C.a i 5) (C.a i 6) (C.a i 7) (C.a i 8) (C.a i 9) (C.a i 10) (C.a i 11) (C.a i 14) (C.p i) (C.q i) (C.al i).length (C.zl i).length (C.cn i) (C.cm i) Z.h4 Z.h5 Z.h3 Z.h7 Z.h6;have hN:=Mk (C.a i 0) (C.a i 1) (C.a i 2) (C.a i 3) (C.a i 4) (C.a i 5) (C.a i 6) (C.a i 7) (C.a i 8) (C.a i 9) (C.a i 10) (C.a i 11) (C.a i 14) (C.p i) (C.q i) (C.al i).length (C.zl i).length (C.cn i) (C.cm i) Z.h4 Z.h5 Z.h3 Z.h7 Z.h6;have hO:=Mj (C.a i 0) (C.a i 1) (C.a i 2) (C.a i 3) (C.a i 4) (C.a i 5) (C.a i 6) (C.a i 7) (C.a i 8) (C.a i 9) (C.a i 10) (C.a i 11) (C.a i 14) (C.p i) (C.q i) (C.al i).length (C.zl i).length (C.cn i) (C.cm i);have hP:=Z.bounds (skI l i) (S.bk i).l (S.bk 2).l;have hp:=fun u (h:Below K wz u)=>Jbh (C.a i 0) (C.a i 1) (C.a i 11) (C.a i 14) (moI C i) (C.p i) (C.q i) (C.cn i) (C.cm i) (C.al i) (C.zl i) (S.hd i).1 (S.hd i).2.1 (S.hd i).2.2 (skI l i) (S.bk i).l (S.bk 2).l S.n (pvI C i (sv i)) Z.m0 Z.m1 Z.mc Z.ho u (Z.line u h).1 (Z.line u h).2;have hq:=fun u (h:Below K wz u)=>Jl1 (C.a i 0) (C.a i 1) (C.a i 11) (C.a i 14) (moI C i) (C.p i) (C.q i) (C.cn i) (C.cm i) (C.al i) (C.zl i) (haM C i (S.hd i) (skI l i) (S.bk i).l S.n) (hdM C i (S.hd i) (skI l i) (S.bk i).l (S.bk 2).l S.n (sv i)) S.n (skI l i) (S.bk i).l (S.bk 2).l S.n (pvI C i (sv i)) (wtM C i (S.hd i) (skI l i) (S.bk i).l (S.bk 2).l S.n (sv i)) (smU (svM C i (S.hd i) (skI l i) (S.bk i).l (S.bk 2).l S.n (sv i)) (sv i).length) Z.m0 Z.m1 Z.mc (TQ (S.bk i).l (S.bk 2).l Z.ho) u (Z.line u h).1 (Z.line u h).2;have hj:=fun u (h:VLs u (some (Ad (G i) 0)) (sv i))=>Z.spread (goM C i (S.hd i) (skI l i) (S.bk i).l (S.bk 2).l S.n (sv i)) (G i) (S.sc i) u h;have hQ:=Y1 (wtM C i (S.hd i) (skI l i) (S.bk i).l (S.bk 2).l S.n (sv i)) (bdL C i (S.bk i).l S.n (pvI C i (sv i))) (bdH C i (S.bk i).l S.n (pvI C i (sv i)));have hw:(svM C i (S.hd i) (skI l i) (S.bk i).l (S.bk 2).l S.n (sv i)).length=(sv i).length:=II _ _ _
 have hh:=fun u (h:VLs u (some (Ad (G i) 0)) (svM C i (S.hd i) (skI l i) (S.bk i).l (S.bk 2).l S.n (sv i)))=>E5 (svM C i (S.hd i) (skI l i) (S.bk i).l (S.bk 2).l S.n (sv i)) (some (Ad (G i) 0)) (S.sc i) (by rw[hw];have:=Z.n4;omega) (fun k hk=>by
  rw[hw] at hk
  unfold svM
  rw[IL _ _ hk]
  exact Jhw Z.ok _ hk) u h
 rw[hw] at hh;have hE:=(X.blk.cell (Nz S C _ hi)).1;rw[(X.servo i hi).1,(X.servo i hi).2.1] at hE;have HG:=Za (X.blk.sub (30+i*15) 15);rw[Jar S C _ hi] at HG;have hY:=Z.n4;have hl:(plI (C.a i 5) (C.a i 6) (sv i) (goM C i (S.hd i) (skI l i) (S.bk i).l (S.bk 2).l S.n (sv i))).length=(sv i).length:=Jbf _ _ _ _;have Hq:Hd (svM C i (S.hd i) (skI l i) (S.bk i).l (S.bk 2).l S.n (sv i)=sik (sv i) (plI (C.a i 5) (C.a i 6) (sv i) (goM C i (S.hd i) (skI l i) (S.bk i).l (S.bk 2).l S.n (sv i))) (sv i).length):=Za rfl;have Hy:Hd (hoM C i (S.hd i) (skI l i) (S.bk i).l (S.bk 2).l S.n (sv i)=(haM C i (S.hd i) (skI l i) (S.bk i).l S.n,toD (C.a i 14) (moI C i) (haM C i (S.hd i) (skI l i) (S.bk i).l S.n) (hdM C i (S.hd i) (skI l i) (S.bk i).l (S.bk 2).l S.n (sv i)) (S.bk i).l S.n (wtM C i (S.hd i) (skI l i) (S.bk i).l (S.bk 2).l S.n (sv i)) (smU (svM C i (S.hd i) (skI l i) (S.bk i).l (S.bk 2).l S.n (sv i)) (sv i).length),S.n)):=Za rfl;rw[Hq.o] at hh;have hG:∀u,Below K wz u->Va 290 #[.agg (Qav C i),.agg #[Vi (S.hd i).1,Vi (S.hd i).2.1,Vi (S.hd i).2.2],.agg #[Vi (skI l i),Vi (S.bk i).l,Vi (S.bk 2).l,Vi S.n,Vi (pvI C i (sv i))]] u (Rt u (.tuple #[Vi (wtM C i (S.hd i) (skI l i) (S.bk i).l (S.bk 2).l S.n (sv i)),.agg #[Vi (haM C i (S.hd i) (skI l i) (S.bk i).l S.n),Vi (hdM C i (S.hd i) (skI l i) (S.bk i).l (S.bk 2).l S.n (sv i)),Vi S.n],.nilIface])):=hp;have hr:∀u,Bw w u->Va 289 #[Ve B 0,Vi i] u (Rt u (.agg #[Vi (skI l i),Vi (S.bk i).l,Vi (S.bk 2).l,Vi S.n,Vi (pvI C i (sv i))])):=hL;have hs:∀u,Va 156 #[.agg (Qab C i)] u (Rt u (.agg (Qav C i))):=hM
 have ht:∀u,Va 153 #[.agg (Qab C i)] u (Rt u (.agg (Qbo C i))):=hN;have hu:∀u,Va 264 #[Vi (wtM C i (S.hd i) (skI l i) (S.bk i).l (S.bk 2).l S.n (sv i)),Vi (bdL C i (S.bk i).l S.n (pvI C i (sv i))),Vi (bdH C i (S.bk i).l S.n (pvI C i (sv i)))] u (Re u (Vi (goM C i (S.hd i) (skI l i) (S.bk i).l (S.bk 2).l S.n (sv i)))):=hQ;clear hL hp hM hN hQ hw;have U:=Za X.low;have Hz:=Za X;have hZ:=(X.servo i hi).2.2.1.lt;have Hr:=X.vls hi;rw[(X.servo i hi).1] at Hr;have Hr:=Za Hr;have h8:=X.blk.lt;have Ho:=Za (X.blk.sub (23+i*3) 3);rw[Jlb S C _ hi] at Ho;have E:K<=w.heap.size:=Nat.le_of_lt (Nat.lt_of_le_of_lt X.base X.blk.lt);clear Z X;obtain⟨h0,h1,h2,HHE⟩:∃h0 h1 h2,Hd ((S.hd i).1=h0/\(S.hd i).2.1=h1/\(S.hd i).2.2=h2):=⟨_,_,_,Za ⟨rfl,rfl,rfl⟩⟩;simp only[HHE.o.1,HHE.o.2.1,HHE.o.2.2] at hG
 have Ho:Hd (w.rangeAt B (23+i*3) [Vi h0,Vi h1,Vi h2]):=by
  have:=Ho.o
  unfold hdL at this
  rw[HHE.o.1,HHE.o.2.1,HHE.o.2.2] at this;exact Za this
 clear HHE;obtain⟨p,HPE⟩:∃p,Hd (plI (C.a i 5) (C.a i 6) (sv i) (goM C i (S.hd i) (skI l i) (S.bk i).l (S.bk 2).l S.n (sv i))=p):=⟨_,Za rfl⟩;rw[HPE.o] at hh hl Hq;simp only[HPE.o] at hj;generalize toD (C.a i 14) (moI C i) (haM C i (S.hd i) (skI l i) (S.bk i).l S.n) (hdM C i (S.hd i) (skI l i) (S.bk i).l (S.bk 2).l S.n (sv i)) (S.bk i).l S.n (wtM C i (S.hd i) (skI l i) (S.bk i).l (S.bk 2).l S.n (sv i)) (smU (svM C i (S.hd i) (skI l i) (S.bk i).l (S.bk 2).l S.n (sv i)) (sv i).length)=P at *;rw[Hq.o] at hq;generalize smU (sik (sv i) p (sv i).length) (sv i).length=gt at *;clear HPE;generalize goM C i (S.hd i) (skI l i) (S.bk i).l (S.bk 2).l S.n (sv i)=go at *;generalize wtM C i (S.hd i) (skI l i) (S.bk i).l (S.bk 2).l S.n (sv i)=wt at *;generalize hdM C i (S.hd i) (skI l i) (S.bk i).l (S.bk 2).l S.n (sv i)=hd at *;generalize haM C i (S.hd i) (skI l i) (S.bk i).l S.n=ha at *;generalize bdL C i (S.bk i).l S.n (pvI C i (sv i))=lo at *;generalize bdH C i (S.bk i).l S.n (pvI C i (sv i))=hi' at *;rw[Hy.o,Hq.o];clear Hy Hq;generalize hn:(sv i).length=m at *;generalize skI l i=sk at *;generalize (S.bk i).l=bx at *;generalize (S.bk 2).l=bv at *;generalize hX:S.n=n at *;generalize pvI C i (sv i)=pv at *;(try dsimp only[Qav,Qbo] at *);generalize moI C i=mo at *;generalize raI C i=ra at *;generalize puI C i=pu at*
 have i0:(0:Int)<=(i:Int):=by omega
 have i1:(i:Int)<2:=by omega
 go_enter func254,ntmps254
 go_upto_region 1 with fail;refine Cs [16,17,18,19,20,21,22,23,24,25,26,27,28,29,5] ?_;refine Cp 0 16 [] ?_;refine Cp 1 17 [] ?_;refine Cp 2 18 [0] ?_;refine Cp 3 19 [2] ?_;refine Cp 4 20 [3] ?_;refine Cp 5 21 [4,1] ?_;refine Cl (x:=.tmp 21) 6 22 [5] (fun y w hF u hc=>⟨Zf HG.o hc,hF.1⟩) underlying38 Zq ?_;refine Cp 7 23 [] ?_;refine Cp 8 24 [] ?_;refine Cp 9 25 [7] ?_;refine Cp 10 26 [9] ?_;refine Cp 11 27 [10] ?_;refine Cp 12 28 [11,8] ?_;refine Cq (V5 hE) 13 29 [12] ?_;refine Ca 14 5 ?_;refine Cn 2 17 [15,16] (fun y J H X=>?_);obtain⟨Q,e,Y⟩:=X.1;have R:Hd (NB _ _ _ Q Qbi):=Za Y;(try simp only[e]);clear e Y;have N:=Za H;clear H X;refine Ra 15 (fun K hK=>?_);rw[if_pos (by rfl)];refine Z2 38 (.tmp 5) (.tmp 22) rfl Q 0 (Qab C i) rfl rfl (R.o.1.there (Nat.le_of_ble_eq_true rfl)) Zq (Zm _ rfl) rfl ?_;have T:=Za (Zo (Qae C i) 0 J N.o (NB.le R.o))
 have I:Hd (NB 38 w.heap.size (J.setCells Q 0 (Qae C i)) Q (Qae C i)):=Za ⟨Blk.setCells (Qae C i) 0 J Qbi R.o.1,NB.le R.o⟩;generalize hU:World.setCells _ Q 0 _=u2 at *;clear hU;refine hK.out _ _ T.o (fun _=>?_);clear hK K;clear N R;refine Tq 16 T.o ?_;simp only[Act.put,Ly];refine Dn ?_;go_simp;have Y:=I.o;clear I;have H:=T.o;clear T;generalize u2=v1 at H Y|-;clear hE HG;refine Ek ?_;have M:=Za Y.1;have h9:=NB.le Y;clear Y;generalize Q=QA at *;have Hv:=Za H;clear H
 go_upto_region 3 with(go_at_call 289;refine Sb (hr _ Hv.o) fun v D=>?_;have W:=Za (Zc Hv.o D);have M:=Za (M.o.lq D);clear D Hv);have ja:=W.o.size;have F:Hd (Blk 238 (v.alloc (.cells #[Vi sk,Vi bx,Vi bv,Vi n,Vi pv] 238)) v.heap.size [Vi sk,Vi bx,Vi bv,Vi n,Vi pv]):=Za (Blk.new v _ _);have M:=Za (M.o.lq (Zb v (.cells #[Vi sk,Vi bx,Vi bv,Vi n,Vi pv] 238)));have W:=Za (Zc W.o (Zb v (.cells #[Vi sk,Vi bx,Vi bv,Vi n,Vi pv] 238)));generalize v.alloc (.cells #[Vi sk,Vi bx,Vi bv,Vi n,Vi pv] 238)=v2 at *;generalize v.heap.size=QK at *;have U:=Za (KC U.o E W.o);have E:K<=v2.heap.size:=Nat.le_trans E W.o.size;have Ho:=Za (Zf Ho.o W.o);have L:Hd (v2.rangeAt QA 0 (axL C i)):=Za M.o.range;have Hh:=Za F.o.range;refine Cs [34,35,36,37,38,39,40,41,42,43,44,33,45,46,47,9,8] ?_;refine Cl (x:=.tmp 5) 0 34 [] (fun y w _ u hc=>⟨Zf L.o hc,rfl⟩) underlying38 Zq ?_;refine Cc 1 35 [0] (fun y w h _=>hs _) ?_;refine Cp 2 36 [] ?_;refine Cp 3 37 [] ?_;refine Cp 4 38 [2] ?_;refine Cp 5 39 [4] ?_;refine Cp 6 40 [5] ?_;refine Cp 7 41 [6,3] ?_;refine Cl (x:=.tmp 41) 8 42 [7] (fun y w hF u hc=>⟨Zf Ho.o hc,hF.1⟩) underlying107 Xq ?_;refine Cl (x:=.tmp 7) 9 43 [] (fun y w _ u hc=>⟨Zf Hh.o hc,rfl⟩) underlying238 C6 ?_;refine Cc 10 44 [1,8,9] (fun y w h _=>hG _ (KC U.o E h)) ?_;refine Cp 11 33 [10] ?_;refine Cp 12 45 [11] ?_;refine Cp 13 46 [11] ?_;refine Cp 14 47 [11] ?_;refine Ca 15 9 ?_;refine Cp 16 8 [12] ?_;refine Cn 2 19 [17,18] (fun y J H X=>?_);obtain⟨Q,e,Y⟩:=X.2.1;have R:Hd (NB _ _ _ Q [Vi 0,Vi 0,Vi 0]):=Za Y;(try simp only[e]);clear e Y;have N:=Za H;clear H X;refine Ra 17 (fun K hK=>?_);rw[if_pos (by rfl)];refine Z2 107 (.tmp 9) (.tmp 46) rfl Q 0 #[Vi ha,Vi hd,Vi n] rfl rfl (R.o.1.there (Nat.le_of_ble_eq_true rfl)) Xq (Zm _ rfl) rfl ?_;have T:=Za (Zo [Vi ha,Vi hd,Vi n] 0 J N.o (NB.le R.o))
 have I:Hd (NB 107 v2.heap.size (J.setCells Q 0 [Vi ha,Vi hd,Vi n]) Q [Vi ha,Vi hd,Vi n]):=Za ⟨Blk.setCells [Vi ha,Vi hd,Vi n] 0 J [Vi 0,Vi 0,Vi 0] R.o.1,NB.le R.o⟩;generalize hU:World.setCells _ Q 0 _=u2 at *;clear hU;refine hK.out _ _ T.o (fun _=>?_);clear hK K;clear N R;refine Tq 18 T.o ?_;simp only[Act.put,Ly];refine Dn ?_;go_simp;have Y:=I.o;clear I;have H:=T.o;clear T;generalize u2=v3 at H Y|-;refine Ek ?_;have O:=Za Y.1;have hR:=NB.le Y;have hR:=Nat.le_trans W.o.size hR;clear Y Ho L Hh hG;generalize Q=QH at *;have M:=Za (M.o.lq H);have F:=Za (F.o.lq H);have U:=Za (KC U.o E H);have E:K<=v3.heap.size:=Nat.le_trans E H.size;have HA:=Za (Zc W.o H);clear H W
 go_upto_region 6 with fail;have L:Hd (v3.rangeAt QA 0 (axL C i)):=Za M.o.range;have Hh:=Za F.o.range;refine Cs [52,53,54,55,51,56,57,11] ?_;refine Cl (x:=.tmp 5) 0 52 [] (fun y w _ u hc=>⟨Zf L.o hc,rfl⟩) underlying38 Zq ?_;refine Cc 1 53 [0] (fun y w h _=>ht _) ?_;refine Cl (x:=.tmp 7) 2 54 [] (fun y w _ u hc=>⟨Zf Hh.o hc,rfl⟩) underlying238 C6 ?_;refine Cc 3 55 [1,2] (fun y w h _=>hP _) ?_;refine Cp 4 51 [3] ?_;refine Cp 5 56 [4] ?_;refine Cp 6 57 [4] ?_;refine Ca 7 11 ?_;refine Cn 2 10 [8,9] (fun y J H X=>?_);obtain⟨Q,e,Y⟩:=X.1;have R:Hd (NB _ _ _ Q [Vi 0,Vi 0]):=Za Y;(try simp only[e]);clear e Y;have N:=Za H;clear H X;refine Ra 8 (fun K hK=>?_);rw[if_pos (by rfl)];refine Z2 140 (.tmp 11) (.tmp 56) rfl Q 0 #[Vi lo,Vi hi'] rfl rfl (R.o.1.there (Nat.le_of_ble_eq_true rfl)) D1 (Zm _ rfl) rfl ?_;have T:=Za (Zo [Vi lo,Vi hi'] 0 J N.o (NB.le R.o));have I:Hd (NB 140 v3.heap.size (J.setCells Q 0 [Vi lo,Vi hi']) Q [Vi lo,Vi hi']):=Za ⟨Blk.setCells [Vi lo,Vi hi'] 0 J [Vi 0,Vi 0] R.o.1,NB.le R.o⟩;generalize hU:World.setCells _ Q 0 _=u2 at *;clear hU;refine hK.out _ _ T.o (fun _=>?_);clear hK K;clear N R;refine Tq 9 T.o ?_;simp only[Act.put,Ly];refine Dn ?_;go_simp;have Y:=I.o;clear I;have H:=T.o;clear T;generalize u2=v6 at H Y|-;refine Ek ?_;have hS:=(Y.1.cell (j:=0) rfl).1;have hT:=(Y.1.cell (j:=1) rfl).1;clear Y L Hh ht hP;generalize Q=QB at *;have M:=Za (M.o.lq H);have F:=Za (F.o.lq H);have O:=Za (O.o.lq H);have U:=Za (KC U.o E H);have E:K<=v6.heap.size:=Nat.le_trans E H.size;have Hu:=Za (Zc HA.o H);clear H HA
 go_upto_region 9 with fail;have L:Hd (v6.rangeAt QA 0 (axL C i)):=Za M.o.range;have hV:∀u,Bw v6 u->Va 292 #[.agg (Qbu C i),Vf (G i) 0 m (S.sc i),Vi go] u fun e w'=>(∃x cap,e=.returned (.tuple #[Vf x 0 m cap,.nilIface])/\v6.heap.size<=x/\ILs w' (some (Ad x 0)) p)/\Bw u w':=fun u h=>
  (hj u (Hr.o.lq (Zc Hu.o h))).mono fun _ _ ⟨⟨x,cap,h1,h2,h3⟩,D⟩=>⟨⟨x,cap,h1,Nat.le_trans h.size h2,h3⟩,D⟩
 refine Cs [62,63,64,65,66,67,68,69,70,71,61,72,73,12,10] ?_;refine Cl (x:=.tmp 5) 0 62 [] (fun y w _ u hc=>⟨Zf L.o hc,rfl⟩) underlying38 Zq ?_;refine Cc 1 63 [0] (fun y w h _=>hO _) ?_;refine Cp 2 64 [] ?_;refine Cp 3 65 [] ?_;refine Cp 4 66 [] ?_;refine Cq (V5 hS) 5 67 [4] ?_;refine Cp 6 68 [] ?_;refine Cq (V5 hT) 7 69 [6] ?_;refine Cc 8 70 [3,5,7] (fun y w h _=>Yc (hu _)) ?_;refine Cd 9 71 [1,2,8] (fun v u=>∃gp cp,v=.tuple #[Vf gp 0 m cp,.nilIface]/\v6.heap.size<=gp/\ILs u (some (Ad gp 0)) p) (fun y w h _=>(hV _ h).mono (by rintro e w' ⟨⟨gp,cp,rfl,hv,hl⟩,D⟩;exact⟨_,rfl,⟨gp,cp,rfl,hv,hl⟩,D⟩)) (fun _ _ _ ⟨a,b,h1,h2,h3⟩ D=>⟨a,b,h1,h2,h3.lq D⟩) ?_;refine Cu (fun y=>y 71) 10 61 [9] ?_ (hy:=fun y w _ u=>by go_simp);refine Cu (fun y=>tg (y 61) 0) 11 72 [10,9] ?_ (hy:=fun y w hF u=>by obtain⟨hH,⟨_,_,e,-⟩,-⟩:=hF;simp only[show y 61=_ from hH.trans e];go_simp;rfl);refine Cu (fun y=>tg (y 61) 1) 12 73 [10,9] ?_ (hy:=fun y w hF u=>by obtain⟨hH,⟨_,_,e,-⟩,-⟩:=hF;simp only[show y 61=_ from hH.trans e];go_simp;rfl);refine Cu (fun y=>y 72) 13 12 [11] ?_ (hy:=fun y w _ u=>by go_simp);refine Cu (fun y=>y 73) 14 10 [12] ?_ (hy:=fun y w _ u=>by go_simp);refine Ce (fun y J H X=>?_);obtain⟨gp,cp,e,hv,hl⟩:=X.2.2.2.2.2.1;simp only[e,tg];have Hs:=Za hl;have HB:=Za hv;clear hl hv e;have N:=Za H;clear H X;go_simp;have H:=N.o;clear N;generalize J=v9 at H Hs|-;refine Ek ?_;clear hS hT hV hj L hO hu;have hv:=Nat.le_trans Hu.o.size HB.o;have HF:=Za (Zc Hu.o H);have M:Hd (Blk 38 v9 QA (axL C i)):=Za (M.o.lq H);have F:=Za (F.o.lq H);have O:=Za (O.o.lq H);have HC:=Za (Hz.o.lq HF.o);clear H Hu HB Hz Hr hr U
 go_upto_region 13 with fail
 go_loopw [79] (fun ix wr=>∃k:Nat,k<=m/\ix=Vi k/\FR K wz wr B S C a cap l (upd sv i (sik (sv i) p k)) G/\Blk 38 wr QA (axL C i)/\Blk 238 wr QK [Vi sk,Vi bx,Vi bv,Vi n,Vi pv]/\Blk 107 wr QH [Vi ha,Vi hd,Vi n]/\ILs wr (some (Ad gp 0)) p) (fun ix _=>m-(intOf ix).toNat)
 case atStart=>exact⟨0,Nat.zero_le _,rfl,by rw[Jhx];exact HC.o,M.o,F.o,O.o,Hs.o⟩
 case round=>
  obtain⟨k,hk,rfl,A,hx,hz,hC,hD⟩:=hrel;clear HC M F O Hs
  have jb:(sik (sv i) p k).length=m:=by rw[II,hn]
  by_cases hlt:k<m
  . have c0:=Jl2 hD (k:=k) (by omega);have D:=(A.servo i hi).2.2.1;rw[Zs] at D;have c1:=(D.cell (PE _ k (by omega))).1;have c2:=(D.cell (PE _ k (by omega))).2
    have k0:(0:Int)<=(k:Int):=by omega
    have k1:(k:Int)<(m:Int):=by omega
    generalize hI:p.getD k 0=pk at *;have Hp:=Za (A.putIs hi (k:=k) (by rw[Zs];omega) pk);have M:=Za (hx.farCell (g:=G i) (j:=k*3) (x:=Vi pk) (by omega));have F:=Za (hz.farCell (g:=G i) (j:=k*3) (x:=Vi pk) (by omega));have O:=Za (hC.farCell (g:=G i) (j:=k*3) (x:=Vi pk) (by omega));have Hs:=Za (Jl3 (V:=G i) (j:=k*3) (x:=Vi pk) (by omega) hD);rw[Zs,E6,Jo8 (sv i) p (by omega),<-hI,Jhr,hI] at Hp;clear A hx hz hC hD D hI;go_wp2_with fail;go_roundw
    case rel=>exact⟨k+1,by omega,by go_num,Hp.o,M.o,F.o,O.o,Hs.o⟩
    case measure=>simp[intOf];omega
  . obtain rfl:k=m:=by omega
    clear hD
    go_upto_region 17 with fail;have L:=Za hx.range;have Hh:=Za hz.range;have O:=Za hC.range;have U:=Za A.low;have E:K<=wr.heap.size:=Nat.le_of_lt (Nat.lt_of_le_of_lt A.base A.blk.lt);have hJ:=A.vls hi;rw[(A.servo i hi).1,Zs] at hJ;have hW:=fun u (h:Bw wr u)=>hh u (hJ.lq h);have Hp:=Za A;clear hx hz hC A hJ;refine Cs [91,92,93,94,95,96,97,98,90,99,100,15] ?_;refine Cl (x:=.tmp 5) 0 91 [] (fun y w _ u hc=>⟨Zf L.o hc,rfl⟩) underlying38 Zq ?_;refine Cc 1 92 [0] (fun y w h _=>hs _) ?_;refine Cl (x:=.tmp 9) 2 93 [] (fun y w _ u hc=>⟨Zf O.o hc,rfl⟩) underlying107 Xq ?_;refine Cl (x:=.tmp 7) 3 94 [] (fun y w _ u hc=>⟨Zf Hh.o hc,rfl⟩) underlying238 C6 ?_;refine Cp 4 95 [] ?_;refine Cp 5 96 [] ?_;refine Cc 6 97 [5] (fun y w h _=>hW _ h) ?_;refine Cc 7 98 [1,2,3,4,6] (fun y w h _=>hq _ (KC U.o E h)) ?_;refine Cp 8 90 [7] ?_;refine Cp 9 99 [8] ?_;refine Cp 10 100 [8] ?_;refine Ca 11 15 ?_;refine Cn 2 14 [12,13] (fun y J H X=>?_);obtain⟨Q,e,Y⟩:=X.1;have R:Hd (NB _ _ _ Q [Vi 0,Vi 0,Vi 0]):=Za Y;(try simp only[e]);clear e Y;have N:=Za H;clear H X;refine Ra 12 (fun K hK=>?_);rw[if_pos (by rfl)];refine Z2 107 (.tmp 15) (.tmp 99) rfl Q 0 #[Vi ha,Vi P,Vi n] rfl rfl (R.o.1.there (Nat.le_of_ble_eq_true rfl)) Xq (Zm _ rfl) rfl ?_;have T:=Za (Zo [Vi ha,Vi P,Vi n] 0 J N.o (NB.le R.o));have I:Hd (NB 107 wr.heap.size (J.setCells Q 0 [Vi ha,Vi P,Vi n]) Q [Vi ha,Vi P,Vi n]):=Za ⟨Blk.setCells [Vi ha,Vi P,Vi n] 0 J [Vi 0,Vi 0,Vi 0] R.o.1,NB.le R.o⟩;generalize hU:World.setCells _ Q 0 _=u2 at *;clear hU;refine hK.out _ _ T.o (fun _=>?_);clear hK K;clear N R;refine Tq 13 T.o ?_;simp only[Act.put,Ly];refine Dn ?_;go_simp;have Y:=I.o;clear I;have H:=T.o;clear T;generalize u2=v17 at H Y|-;refine Ek ?_;have Ht:=Za (Hp.o.lq H);have jc:=NB.le Y;have HD:=Za Y.1;have HX:Hd (Q≠B):=Za (by have:=Hp.o.blk.lt;omega);clear Y L Hh O hW H Hp;generalize Q=QT at*
    go_upto_region 20 with fail;have Hw:=Za (Ht.o.lq Vb);have HT:Hd (World.there v17.drew B (23+i*3) 3):=Za (Hw.o.blk.there (by rw[Jan];omega));have HE:Hd (World.rangeAt v17.drew QT 0 [Vi ha,Vi P,Vi n]):=Za (HD.o.lq Vb).range;have Hx:=Za (Hw.o.put (({ S with hd:=upd S.hd i (ha,P,n) }:FS)) [Vi ha,Vi P,Vi n] (23+i*3) (WR S C _ hi (ha,P,n)) ⟨rfl,rfl⟩);clear Ht HD Hw;refine wp_region_held_drew (S:=fun u=>(u.rangeAt QT 0 [Vi ha,Vi P,Vi n])) (by kernel_rfl) (HE.o) (fun _=>?_);have Hn:Hd ((v17.drew.rangeAt QT 0 [Vi ha,Vi P,Vi n])):=Za (HE.o);refine Tq 0 Hn.o ?_;simp only[Act.put,Ly];refine Tq 1 Hn.o ?_;simp only[Act.put,Ly];refine Tk 2 rfl (yieldsIf_load_mid (by rfl) 107 (.tmp 15) rfl QT 0 rfl [Vi ha,Vi P,Vi n] _ (fun w hc=>hc) underlying107 rfl Xq) Hn.o ?_;simp only[Act.put,Ly];refine Tq 3 Hn.o ?_;simp only[Act.put,Ly];refine Tq 4 Hn.o ?_;simp only[Act.put,Ly];refine Tq 5 Hn.o ?_;simp only[Act.put,Ly];refine Tq 6 Hn.o ?_;simp only[Act.put,Ly];refine Ra 7 (fun K hK=>?_);rw[if_pos (by rfl)];refine Z2 107 (.tmp 110) (.tmp 106) rfl B (23+i*3) #[Vi ha,Vi P,Vi n] rfl rfl (HT.o) Xq (Zm _ rfl) rfl ?_;have N:=Za (World.rangeAt_setCells_apart Hn.o B (23+i*3) [Vi ha,Vi P,Vi n] (.inl HX.o));refine hK.out _ _ N.o (fun _=>?_);clear hK K;refine Dn ?_;go_simp;refine Ek ?_;go_wp2_with fail;go_ret;subst hX;exact⟨rfl,Hx.o⟩
def mvH(C:CR)(S:FS)(l:List Rd)(sv:Nat->List Sv)(i:Nat):Int×Int×Int:=hoM C i (S.hd i) (skI l i) (S.bk i).l (S.bk 2).l S.n (sv i)
def mvS(C:CR)(S:FS)(l:List Rd)(sv:Nat->List Sv)(i:Nat):List Sv:=svM C i (S.hd i) (skI l i) (S.bk i).l (S.bk 2).l S.n (sv i)
theorem AP.next(h:AP K wz C S l sv 1)(x:Int×Int×Int)(y:List Sv):AP K wz C ({ S with hd:=upd S.hd 0 x }:FS) l (upd sv 0 y) 1:=
 ⟨h.n1,h.n4,h.m0,h.m1,h.mc,h.line,h.ok,h.h4,h.h5,h.h3,h.h7,h.h6,h.ho,h.gm⟩
theorem UF{a:V8}{G:Nat->Nat}(y:FR K wz w B S C a cap l sv G)(h0:AP K wz C S l sv 0)(h1:AP K wz C S l sv 1):
 Va 207 #[Ve B 0] w fun e w'=>e=.returned .nilIface/\FR K wz w' B ({ S with hd:=upd (upd S.hd 0 (mvH C S l sv 0)) 1 (mvH C S l sv 1) }:FS) C a cap l (upd (upd sv 0 (mvS C S l sv 0)) 1 (mvS C S l sv 1)) G:=by
 have ha:=GP y 0 (by omega) h0;have m:=fun(u:V6) (h:FR K wz u B ({ S with hd:=upd S.hd 0 (mvH C S l sv 0) }:FS) C a cap l (upd sv 0 (mvS C S l sv 0)) G)=>GP h 1 (by omega) (h1.next _ _);clear y h0 h1
 go_enter func207,ntmps207
 go_upto_region 2 with fail;refine wp_loop_rounds 3 ?_;rw[rounds_succ]
 go_wp2_with (go_at_call 254;refine ha.mono ?_;rintro e H ⟨rfl,y⟩;have j:=Za y;clear y);rw[rounds_succ]
 go_wp2_with (go_at_call 254;refine Sb (m _ j.o) fun Z y=>?_;have j:=Za y;clear y);rw[rounds_succ];go_wp2_with fail;go_ret;exact⟨rfl,j.o⟩
end Go.Proofs.YtnepnnkdgejheaaGreatDoor
