
import Derived.Test.YtnepnnkdgejheaaGreatDoorKp48
set_option maxRecDepth 100000
set_option maxHeartbeats 20000000
namespace Go.Proofs.YtnepnnkdgejheaaGreatDoor
open Go.RowKit Plain Tryz
variable {K:Nat}{a:Addr}
theorem Jnr{s:V7}(h:Q7 s=none):CT s=none:=by
 have hs:=List.findIdx?_eq_none_iff.1 h;refine List.findIdx?_eq_none_iff.2 fun x hx=>hs x ?_;simp only[Jkc,List.mem_cons,List.not_mem_nil,or_false] at hx;simp only[Jjz,List.mem_cons,List.not_mem_nil,or_false]
 rcases hx with rfl|rfl|rfl|rfl|rfl|rfl<;>simp
theorem gN5{r:List V7}(h:r.length=5):r.map nV=[gN r 0,gN r 1,gN r 2,gN r 3,gN r 4]:=by
 match r,h with
 |[_,_,_,_,_],_=>rfl
theorem gN9{r:List V7}(h:r.length=9):r.map nV=[gN r 0,gN r 1,gN r 2,gN r 3,gN r 4,gN r 5,gN r 6,gN r 7,gN r 8]:=by
 match r,h with
 |[_,_,_,_,_,_,_,_,_],_=>rfl
theorem CJ{r:List V7}(h:r.length=0):r.map nV=[]/\r.all nC=true:=by
 match r,h with
 |[],_=>exact⟨rfl,rfl⟩
theorem VP(K D:Nat)(g:Nat->Nat)(d:Dk)(m:Nat)(hd:DI d m)(R:m<=10000)(y j H:Value)(X:Nat)(s:V7)(r:List V7)(Q:r.length<=100000)(Z:∀x∈r,x.size<=100000)(w:V6)(G:GW K a w)(Y:w.heap[X]?=some (.cells ((s::r).map Value.string).toArray 9 (0,0)))(h:PD false K D g d y j H w):
 Va 11 #[Ve D 0,Vf X 0 (r.length+1) (r.length+1)] w (RnP K D g (lnA d (s::r)) w):=by
 cases hk:Q7 s with
 |none=>
  rw[show lnA d (s::r)=(d,AN) by simp only[lnA,hk]];have hs:=List.findIdx?_eq_none_iff.1 hk;have h0:=Jj3 (hs setS (by simp[Jjz]));exact Wt K D g d y j H X s r Q Z (.inl (Jnr hk)) w Y h (hs:=h0)
 |some k=>
  obtain⟨hc,ha⟩:=Jcj hk;rw[show lnA d (s::r)=if r.length=ZM k then act k d r else(d,AN) by simp only[lnA,hk]]
  rcases(show k=0\/k=1\/k=2\/k=3\/k=4\/k=5\/k=6 by omega) with rfl|rfl|rfl|rfl|rfl|rfl|rfl
  . obtain rfl:=Option.some.inj ha;exact Jnq K D g d y j H X r Z w G Y h
  . obtain rfl:=Option.some.inj ha
    show Calls _ _ _ _ (RnP K D g (if r.length=5 then(if r.all nC=true then Ws d (gN r 0,gN r 1,gN r 2,gN r 3,gN r 4) else(d,AN)) else(d,AN)) w)
    by_cases h5:r.length=5
    . rw[if_pos h5]
      by_cases hn:r.all nC=true
      . rw[if_pos hn];have:=Je6 K D g d m hd R y j H X r _ _ _ _ _ h5 Z hn (gN5 h5) w G Y h;rw[h5];exact this
      . rw[if_neg hn];exact Wt K D g d y j H X Wu r Q Z (.inr (.inl (by simpa using hn))) w Y h
    . rw[if_neg h5];exact Wt K D g d y j H X Wu r Q Z (.inr (.inr ⟨0,by kernel_rfl,h5⟩)) w Y h
  . obtain rfl:=Option.some.inj ha
    show Calls _ _ _ _ (RnP K D g (if r.length=9 then(if r.all nC=true then BL d (AQ (gN r 0) (gN r 1) (gN r 2) (gN r 3) (gN r 4) (gN r 5) (gN r 6) (gN r 7)) (gN r 7) (gN r 8) else(d,AN)) else(d,AN)) w)
    by_cases h5:r.length=9
    . rw[if_pos h5]
      by_cases hn:r.all nC=true
      . rw[if_pos hn]
        by_cases hq:(0<=gN r 7/\gN r 7<=1)/\1<=gN r 8/\gN r 8<=300
        . have:=Jkg K D g d m hd R y j H X r _ _ _ _ _ _ _ _ _ h5 Z hn (gN9 h5) hq.1 hq.2 w G Y h;rw[h5];exact this
        . have:=QI K D g d m hd R y j H X r _ _ _ _ _ _ _ _ _ h5 Z hn (gN9 h5) hq w G Y h;rw[h5];exact this
      . rw[if_neg hn];exact Wt K D g d y j H X BS r Q Z (.inr (.inl (by simpa using hn))) w Y h
    . rw[if_neg h5];exact Wt K D g d y j H X BS r Q Z (.inr (.inr ⟨1,by kernel_rfl,h5⟩)) w Y h
  . obtain rfl:=Option.some.inj ha
    show Calls _ _ _ _ (RnP K D g (if r.length=0 then MF d else(d,AN)) w)
    by_cases h5:r.length=0
    . rw[if_pos h5];have:=Jnp K D g d m hd R y j H X r h5 Z (CJ h5).2 (CJ h5).1 w G Y h;rw[h5];exact this
    . rw[if_neg h5];exact Wt K D g d y j H X RZ r Q Z (.inr (.inr ⟨3,by kernel_rfl,h5⟩)) w Y h
  . obtain rfl:=Option.some.inj ha
    show Calls _ _ _ _ (RnP K D g (if r.length=1 then(d,atA d (gS r 0)) else(d,AN)) w)
    by_cases h5:r.length=1
    . rw[if_pos h5];have T:=ws1 h5
      by_cases hn:r.all nC=true
      . have:=Jqw K D g d m hd R y j H X r (gN r 0) h5 Z hn (by rw[T];rfl) w G Y h;rw[h5];exact this
      . have hn':r.all nC=false:=by simpa using hn
        have e:atA d (gS r 0)=AN:=by
         unfold atA
         rw[if_neg (fun q=>hn (by rw[T];simpa using q))]
        rw[e];exact Wt K D g d y j H X atS r Q Z (.inr (.inl hn')) w Y h
    . rw[if_neg h5];exact Wt K D g d y j H X atS r Q Z (.inr (.inr ⟨2,by kernel_rfl,h5⟩)) w Y h
  . obtain rfl:=Option.some.inj ha
    show Calls _ _ _ _ (RnP K D g (if r.length=0 then(d,Q6 d) else(d,AN)) w)
    by_cases h5:r.length=0
    . rw[if_pos h5];have:=Jfe K D g d m hd R y j H X r h5 Z (CJ h5).2 (CJ h5).1 w G Y h;rw[h5];exact this
    . rw[if_neg h5];exact Wt K D g d y j H X C0 r Q Z (.inr (.inr ⟨4,by kernel_rfl,h5⟩)) w Y h
  . obtain rfl:=Option.some.inj ha
    show Calls _ _ _ _ (RnP K D g (if r.length=0 then(⟨d.a,[],[],[]⟩,okS) else(d,AN)) w)
    by_cases h5:r.length=0
    . rw[if_pos h5];have:=Jfd K D g d m hd R y j H X r h5 Z (CJ h5).2 (CJ h5).1 w G Y h;rw[h5];exact this
    . rw[if_neg h5];exact Wt K D g d y j H X C1 r Q Z (.inr (.inr ⟨5,by kernel_rfl,h5⟩)) w Y h
theorem ZZ(t:V7):(t.size=0/\AR t=t)\/∃n,t.size=n+1/\∃h:n<t.size,(¬((t[n]'h).toNat:Int)=10/\AR t=t)\/(((t[n]'h).toNat:Int)=10/\AR t=t.extract 0 n):=by
 by_cases h:0<t.size
 . obtain⟨n,hn⟩:∃n,t.size=n+1:=⟨t.size-1,by omega⟩
   have hlt:n<t.size:=by omega
   have h1:t.size-nlS.size=n:=by rw[show nlS.size=1 from rfl];omega
   have hx:(t.extract n t.size).toList=[t[n]'hlt]:=by
    rw[ByteArray.toList_eq,Lib.extract_data];have hl:t.size=t.data.toList.length:=Lib.size_eq t;apply List.ext_getElem
    . simp only[List.length_drop,List.length_take,List.length_singleton];omega
    . intro i h1 h2;simp only[List.length_singleton] at h2
      obtain rfl:i=0:=by omega
      simp only[List.getElem_drop,List.getElem_take,List.getElem_singleton,Nat.add_zero]
      rfl
   refine .inr ⟨n,hn,hlt,?_⟩
   by_cases ha:((t[n]'hlt).toNat:Int)=10
   . refine .inr ⟨ha,h1▸Lib.trimSuffix_hit t nlS (show 1<=t.size by omega) ?_⟩;rw[h1,hx,show nlS.toList=[10] by rw[ByteArray.toList_eq],show t[n]'hlt=10 from UInt8.toNat_inj.1 (Int.ofNat.inj ha)]
     rfl
   . refine .inl ⟨ha,Lib.trimSuffix_miss t nlS ?_⟩;rw[h1,hx,show nlS.toList=[10] by rw[ByteArray.toList_eq]];have:t[n]'hlt≠10:=fun e=>ha (by rw[e];rfl)
     simp[this]
 . exact .inl ⟨by omega,Lib.trimSuffix_miss t nlS (by rw[show nlS.size=1 from rfl];simp;omega)⟩
theorem Jnu(C:CR)(w:V6):(Instr.build 49 #[(0,.agg (crL C).toArray)]).run prog w=.ok (.agg (dkL false (crL C) AY AY AY).toArray) w:=by kernel_rfl
theorem LE{ops:Array Oper}{rest:List Oper}{op:Oper}{a:Act}{w:V6}{Q:Exit->Act->World->Prop}(C:CR)(x:Operand)(ha:op.guard=none)(ho:op.op=.build 49 #[(0,x)])(hx:a.eval x=.agg (crL C).toArray)(h:wpList prog ops Q rest (a.put op.dst (.agg (dkL false (crL C) AY AY AY).toArray)) w):wpList prog ops Q (op::rest) a w:=by
 refine wpList_plain ha fun _ hK=>?_
 unfold Oper.wp execOp
 simp only[ho,List.map_toArray,List.map_cons,List.map_nil,hx,Sem.run_bind,Jnu,Result.andThen_ok];exact hK _ _ h
def SsP(w:V6)(t:V7)(e:Ending)(w':V6):Prop:=(∃s,e=.returned s/\RL w.heap.size w' s (Yo d0 (spl (AR t) nlS)))/\Bw w w'
theorem VS(t:V7)(N:t.size<=4000)(w:V6)(P:GW K a w):
 Va 5 #[.string t] w (SsP w t):=by
 have hL:=U6 (AR t) nlS;have C:Hd ((spl (AR t) nlS).length<=4001):=Za (QD (by decide) (U7 N));have Hj:Hd (∀x∈spl (AR t) nlS,x.size<=4000):=Za (Q9 (U7 N));obtain⟨mm,hi⟩:=P.ml;have E:=Za (fun u (h:Bw w u)=>O1 (AR t) nlS mm u (cell_later h hi) (hs:=by have:=U7 N;omega));rw[show Lib.splitB nlS 0 (Lib.countB (AR t) nlS) (AR t)=spl (AR t) nlS from rfl,<-hL] at E;have Hk:=Za hi;have HG:=Za P;have Hl:Hd (∀e w',(∃s,e=.returned s/\RL w.heap.size w' s (Yo d0 (spl (AR t) nlS)))->Bw w w'->SsP w t e w'):=Za (fun e w' h1 h2=>⟨h1,h2⟩);have hC:=ZZ t;generalize spl (AR t) nlS=L at *;generalize AR t=T at *;clear hL P hi
 go_enter func5,ntmps5
 go_upto_region 2 with(first
  |(go_at_call 9;refine(ZW _).mono ?_;rintro e v1 ⟨F,I,O,U,rfl,hl,hb⟩;have HL:=Za hl;have j:=Za hb;clear hl hb)
  |(refine LE (UC aU (gU F I O U)) (.tmp 7) rfl rfl rfl ?_))
 have m:=Za (PD.usual false HL.o);have HD:=Za j.o.size;replace j:=Za (Zc j.o (Zb v1 (.cells (dkL false (crL (UC aU (gU F I O U))) AY AY AY).toArray (tD false))));clear HL;generalize gU F I O U=g at *;generalize hr:v1.alloc (.cells (dkL false (crL (UC aU g)) AY AY AY).toArray (tD false))=v2 at j m;have ht:v1.alloc (.cells (dkL false (crL (UC aU g)) AY AY AY).toArray 49)=v2:=hr;rw[ht];clear hr ht;generalize v1.heap.size=D at *;have R:=Za ((HG.o.lq j.o).up (Nat.le_trans HG.o.kw HD.o) m.o.lt)
 rcases hC with⟨c0,rfl⟩|⟨n,c0,c1,⟨c2,rfl⟩|⟨c2,rfl⟩⟩
 case' inl=>
  have c3:¬(0:Int)<(T.size:Int):=by omega
  go_upto_region 4 with fail;clear c0 c3
 case' inr.inl=>
  have c3:(0:Int)<(T.size:Int):=by omega
  have c4:IntKind.i64.wrap ((T.size:Int)-1)=(n:Int):=by rw[Xj]<;>omega
  have c5:(0:Int)<=(n:Int):=by omega
  have c6:(n:Int)<(T.size:Int):=by omega
  clear c0
  go_upto_region 4 with fail
 case' inr.inr=>
  have c3:(0:Int)<(t.size:Int):=by omega
  have c4:IntKind.i64.wrap ((t.size:Int)-1)=(n:Int):=by rw[Xj]<;>omega
  have c5:(0:Int)<=(n:Int):=by omega
  have c6:(n:Int)<(t.size:Int):=by omega
  have c7:(n:Int)<=(t.size:Int):=by omega
  clear c0
  go_upto_region 4 with fail
 all_goals
  go_upto_region 7 with(go_at_call 10;refine(E.o _ j.o).mono ?_;rintro e B ⟨rfl,rfl⟩);have J:=Zb v2 (.cells (L.map Value.string).toArray 9);have HX:=Za (World.alloc_heap_new v2 (.cells (L.map Value.string).toArray 9));replace j:=Za (Zc j.o J);replace m:=Za (m.o.lq J);replace R:=Za (R.o.lq J);clear J E;generalize v2.alloc (.cells (L.map Value.string).toArray 9)=B at *;generalize hX:v2.heap.size=X at HX|-;clear hX
  go_loopw [5,6] (fun l ix wr=>∃k:Nat,k<=L.length/\ix=Vi k/\RL B.heap.size wr l (Yo d0 (L.take k))/\(∃W ss sr,PD false D D g (desks d0 (L.take k)) W ss sr wr)/\Dt D B wr) (fun _ ix _=>L.length-(intOf ix).toNat)
  case atStart=>exact⟨0,by omega,rfl,Row.nil _ _ _ _ _,⟨_,_,_,m.o⟩,Dt.refl _ _⟩
  case round=>
   obtain⟨k,hk,rfl,H,⟨W,ss,sr,hp⟩,hd⟩:=hrel
   by_cases hlt:k<L.length
   . have hx:L[k]?=some L[k]:=List.getElem?_eq_getElem hlt;obtain⟨x,hj⟩:∃x,L[k]=x:=⟨_,rfl⟩;have hm:=Hj.o x (hj▸List.getElem_mem hlt);rw[hj] at hx;have hD:=VR HX.o hd hx;have ha:=U6 x blS;have hn:=Q9 (sep:=blS) (Nat.le_trans hm (show 4000<=100000 by decide));have ho:=QD (sep:=blS) (by decide) hm
     obtain⟨s,r,Z⟩:∃s r,spl x blS=s::r:=by
      cases h:spl x blS with
      |nil=>rw[h] at ha;cases ha
      |cons s r=>exact⟨s,r,rfl⟩
     have hq:=O1 x blS mm wr (DE (hd.below m.o.lt) (by show _<D;have:=R.o.kg;exact Nat.lt_of_lt_of_le (by decide) this) (cell_later j.o Hk.o));rw[show Lib.splitB blS 0 (Lib.countB x blS) x=s::r from Z,<-ha,Z,List.length_cons] at hq;rw[Z] at hn ho;have hu:∀y∈r,y.size<=100000:=fun y hy=>hn y (.tail _ hy);have hv:DI (desks d0 (L.take k)) 10000:=(DI.desks (ls:=L.take k) di0).le (by rw[List.length_take];have:=C.o;omega);have M:=Zb wr (.cells ((s::r).map Value.string).toArray 9);have Hm:=Za (VP D D g (desks d0 (L.take k)) 10000 hv (Nat.le_refl _) W ss sr wr.heap.size s r (by simp only[List.length_cons] at ho;omega) hu (wr.alloc (.cells ((s::r).map Value.string).toArray 9)) ((R.o.dt hd).lq M) (World.alloc_heap_new wr _) (hp.lq M));have Y:=Za H;have Hi:=Za hd
     have k1:(k:Int)<(L.length:Int):=by omega
     have hw:IntKind.i64.wrap ((k:Int)+1)=((k+1:Nat):Int):=by rw[IntKind.wrap_i64]<;>(have:=C.o;omega)
     have hc:ans (desks d0 (L.take k)) x=lnA (desks d0 (L.take k)) (s::r):=by unfold ans;rw[Z]
     have Hn:Hd (Yo d0 (L.take (k+1))=Yo d0 (L.take k)++[(lnA (desks d0 (L.take k)) (s::r)).2]):=Za (by rw[Wh hx,D6,hc]);have Ho:Hd (desks d0 (L.take (k+1))=(lnA (desks d0 (L.take k)) (s::r)).1):=Za (by rw[Wh hx,D5,hc]);have Hp:Hd ((Yo d0 (L.take k)).length<=5000):=Za (by rw[Mb,List.length_take];have:=C.o;omega);have Hh:=Za hq;clear H hp hd hj hx hm hv ha hn ho Z hq hu hc;generalize lnA (desks d0 (L.take k)) (s::r)=A at *;generalize Yo d0 (L.take k)=TT at*
     go_wp2_with (first
      |(go_at_call 10;refine Hh.o.mono ?_;rintro e v4 ⟨rfl,rfl⟩;have Q:=Za M;clear M)
      |(go_at_call 11;refine Hm.o.mono ?_;rintro e v5 ⟨hA,hB,rfl⟩;have G:=Za hA;have Hq:=Za hB;clear hA hB)
      |(at_builtin;refine U9 (rs':=[A.2]) (.tmp 34) (.tmp 42) O9 VZ rfl rfl (((Y.o.lq Q.o).dt G.o).lq Vc) (Nat.le_trans ((Hi.o.lq Q.o).trans G.o).size Vc.size) (CA _ _ _) rfl (fun _=>rfl) Jon (by have:=Hp.o;show _+1<=_;omega) ?_;intro s' u' hR hG))
     refine⟨⟨k+1,by omega,by go_num,?_,?_,?_⟩,by simp[intOf];omega⟩
     . rw[Hn.o];exact hR
     . obtain⟨f1,f2,f3,h⟩:=Hq.o;rw[Ho.o];exact⟨f1,f2,f3,(h.lq Vc).txt (((Y.o.lq Q.o).dt G.o).lq Vc) m.o.lt hG⟩
     . exact(((Hi.o.lq Q.o).trans G.o).lq Vc).own (((Y.o.lq Q.o).dt G.o).lq Vc) hG
   . obtain rfl:k=L.length:=by omega
     rw[List.take_length] at H;have Y:=Za H;have Hr:=Za (Wi j.o (DF (hd.below m.o.lt) HD.o));clear H hp hd hk hlt;go_wp2_with fail;go_ret;exact Hl.o _ _ ⟨_,rfl,Y.o.weak j.o.size⟩ Hr.o
theorem Jff(t:V7)(h:(4000:Int)<(t.size:Int))(w:V6):
 Va 6 #[.string t] w (Re w (.tuple #[.slice none 0 0,.iface 22 (Vi 2)])):=by
 go_enter func6,ntmps6
 go_wp2_with fail;go_ret2;exact⟨rfl,rfl⟩
theorem Jkp(t:V7):Yo d0 (spl (AR t) nlS)≠[]:=fun e=>by
 have h1:=Mb (spl (AR t) nlS) d0;have h2:=U6 (AR t) nlS;rw[e] at h1
 simp at h1
 omega
theorem Jcs{u:V6}{s:Value}{l:List V7}(h:RL K u s l)(h0:l≠[]):∃g c,s=Vf g 0 l.length c/\∀j x,l[j]?=some x->u.cell? (Ad g j)=some (.string x):=by
 obtain⟨q,c,rfl⟩:=h.slice;obtain⟨g,rfl,_,hc⟩:=Row.at (f:=tL) (m:=1) (fun _=>rfl) h h0;exact⟨g,c,rfl,fun j x hx=>by have:=hc j x hx 0 _ rfl;simpa using this⟩
theorem FW(t:V7)(w:V6)(y:GW K a w):
 Va 3 #[.string t] w (Rt w (.bool true)):=by
 by_cases h5:(5000:Int)<(t.size:Int)
 . go_enter func3,ntmps3
   go_wp2_with fail;go_ret;exact⟨rfl,Below.refl _ _⟩
 by_cases h4:(4000:Int)<(t.size:Int)
 . have J:=Jff t h4;have hw:=Yr 2
   have hi:∀u,Va 7 #[.iface 22 (Vi 2),Vi 2] u (Re u (.bool true)):=fun u=>by
    have:=Jft 2 2 u;rw[Zv (by decide)] at this;exact this
   have hs:=Jdf;clear y
   go_enter func3,ntmps3
   go_wp2_with (first
    |(go_at_call 4;refine Sm (hw _) ?_)
    |(go_at_call 6;refine Sm (J _) ?_)
    |(go_at_call 7;refine Sm (hi _) ?_)
    |(go_at_call 8;refine Sb (hs _) fun v2 h=>?_))
   go_ret;exact⟨rfl,h⟩
 . have j:t.size<=4000:=by omega
   have Y:=Za (VS t j w y);have X:=Za (fun u (h:Bw w u)=>Jko t j u (y.lq h));have hw:=X0 2;have hi:∀u,Va 7 #[.nilIface,Vi 0] u (Re u (.bool true)):=fun u=>Jft 0 0 u;have Z:=Za (Jkp t);have Q:Hd ((Yo d0 (spl (AR t) nlS)).length<=100000):=Za (by rw[Mb];have:=QD (s:=AR t) (sep:=nlS) (by decide) (U7 j);omega);clear y j
   go_enter func3,ntmps3
   go_upto_region 8 with(first
    |(go_at_call 4;refine Sm (hw _) ?_)
    |(go_at_call 5;refine Y.o.mono ?_;rintro e v1 ⟨⟨F,rfl,hx⟩,h⟩;have m:=Za hx;have H:=Za h;clear hx h)
    |(go_at_call 6;refine(X.o _ H.o).mono ?_;rintro e v2 ⟨⟨I,rfl,hy⟩,h⟩;have G:=Za hy;replace m:=Za (m.o.lq h);replace H:=Za (Zc H.o h);clear hy h))
   obtain⟨M,c1,P,R⟩:=Jcs m.o Z.o;obtain⟨D,c2,C,T⟩:=Jcs G.o Z.o;subst P C;have E:=Za (Jdg D M c2 c1 _ Q.o v2 T R);generalize (Yo d0 (spl (AR t) nlS)).length=N at *;clear m G R T Z Q Y X
   go_wp2_with (first
    |(go_at_call 7;refine Sm (hi _) ?_)
    |(go_at_call 8;refine E.o.mono ?_;rintro e L ⟨rfl,h⟩))
   go_ret;exact⟨rfl,Zc H.o h⟩
end Go.Proofs.YtnepnnkdgejheaaGreatDoor
