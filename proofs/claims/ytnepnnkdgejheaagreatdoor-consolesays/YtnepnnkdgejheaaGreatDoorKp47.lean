import Derived.Lib.SplitLaws
import Derived.Test.YtnepnnkdgejheaaGreatDoorKp46
set_option maxRecDepth 100000
set_option maxHeartbeats 20000000
namespace Go.Proofs.YtnepnnkdgejheaaGreatDoor
open Go.RowKit Plain Tryz
variable {D G0 G1 G2 G3 K X i k m n o:Nat}{Q:Exit->Act->World->Prop}{a:Addr}{cs vs:List Value}{f:Ft}{op:Oper}{ops:Array Oper}{rest:List Oper}{s sf sr ss:Value}{t:TypeId}{u v w w':V6}
theorem NW(sep:V7)(n:Nat):∀(k:Nat) (s:V7),s.size<=n->∀p∈Lib.splitB sep 0 k s,p.size<=n
 |0,s,h,p,hp=>by rw[Lib.splitB_zero] at hp;simp only[List.mem_singleton] at hp;subst hp;exact h
 |k+1,s,h,p,hp=>by
  unfold Lib.splitB at hp
  split at hp
  . simp only[List.mem_singleton] at hp;subst hp;exact h
  . rcases List.mem_cons.1 hp with rfl|hp
    . rw[ByteArray.size_extract];omega
    . exact NW sep n k _ (by rw[ByteArray.size_extract];omega) p hp
theorem Q9{s sep:V7}(h:s.size<=n):∀p∈spl s sep,p.size<=n:=NW sep n _ s h
theorem U6(s sep:V7)(h1:1<=sep.size:=by decide):(spl s sep).length=Lib.countB s sep+1:=Lib.splitB_all sep h1 0 _ s rfl
theorem QD{s sep:V7}(h1:1<=sep.size)(h:s.size<=n):(spl s sep).length<=n+1:=by
 have:=Lib.countB_le sep h1 _ s (Nat.le_refl _);rw[U6 s sep (h1:=h1)];omega
theorem U7{s:V7}(h:s.size<=n):(AR s).size<=n:=by
 rw[Lib.size_eq] at h
 show(Lib.trimSuffix s.data.toList nlS.data.toList).toArray.size<=n
 rw[List.size_toArray]
 unfold Lib.trimSuffix
 split
 . rw[List.length_take];omega
 . exact h
theorem Jcj{s:V7}(h:Q7 s=some k):k<7/\Jjz[k]?=some s:=by
 obtain⟨y,h1,_⟩:=List.findIdx?_eq_some_iff_getElem.1 h;exact⟨y,by rw[List.getElem?_eq_getElem y,Joe h1]⟩
def lnA(d:Dk)(ws:List V7):Dk×ByteArray:=match ws with
 |[]=>(d,AN)
 |s::r=>match Q7 s with
  |none=>(d,AN)
  |some k=>if r.length=ZM k then act k d r else(d,AN)
def ans(d:Dk)(l:V7):Dk×ByteArray:=lnA d (spl l blS)
def desks(d:Dk):List ByteArray->Dk
 |[]=>d
 |l::r=>desks (ans d l).1 r
def Yo(d:Dk):List ByteArray->List ByteArray
 |[]=>[]
 |l::r=>(ans d l).2::Yo (ans d l).1 r
theorem D5(d:Dk)(l:V7):∀ls,desks d (ls++[l])=(ans (desks d ls) l).1
 |[]=>rfl
 |x::r=>by rw[List.cons_append,desks,desks,<-D5 (ans d x).1 l r]
theorem D6(l:V7):∀(ls:List V7) (d:Dk),Yo d (ls++[l])=Yo d ls++[(ans (desks d ls) l).2]
 |[],d=>rfl
 |x::r,d=>by rw[List.cons_append,Yo,Yo,desks,List.cons_append,D6 l r]
theorem Mb:∀(ls:List V7) (d:Dk),(Yo d ls).length=ls.length
 |[],_=>rfl
 |x::r,d=>by rw[Yo,List.length_cons,List.length_cons,Mb r]
theorem Jj6{C:CR}{l:List Ft}{ss:List Stp}(h:Jp6 C l ss):∀n:Nat,n<=ss.length->∀r∈rpU C l ss n,RpI r
 |0,_,r,j=>by rw[rpU] at j;cases j
 |n+1,hn,r,j=>by
  rw[rpU] at j
  rcases List.mem_append.1 j with j|j
  . exact Jj6 h n (by omega) r j
  . simp only[List.mem_singleton] at j;subst j;have g:=PQ (l:=l) h.cr h.st (n+1) hn;have ha:=h.ns;have e:=g.x 0 (by omega);have w:=g.x 1 (by omega);have H:=Nj ((flU C l ss (n+1)).S.bk 0).o 3;have Z:=Nj ((flU C l ss (n+1)).S.bk 1).o 3;have Y:=CC ((flU C l ss (n+1)).sv 0) ((flU C l ss (n+1)).sv 0).length;have X:=CC ((flU C l ss (n+1)).sv 1) ((flU C l ss (n+1)).sv 1).length;have n0:=g.len (i:=0) (by omega);have n1:=g.len (i:=1) (by omega);have r0:=Yl h.cr (i:=0) (by omega);have r1:=Yl h.cr (i:=1) (by omega);have hc:clE (flU C l ss (n+1)).S.n=0:=(Yb g.st).2 0 (by omega);have m:=N6 hc
    unfold A1 at m
    simp only[Bool.and_eq_true,decide_eq_true_eq] at m;intro y hy;simp only[rpV,rpF,List.mem_cons,List.not_mem_nil,or_false] at hy
    rcases hy with rfl|rfl|rfl|rfl|rfl|rfl|rfl<;>omega
theorem DI.le{d:Dk}(h:DI d m)(hn:m<=n):DI d n:=⟨h.a,Nat.le_trans h.ft hn,by have:=h.st;omega,h.rp,h.rn⟩
theorem Jne{a:Nat->Nat->Int}(h:∀i k,-10000000000<=a i k/\a i k<=10000000000){n:Int}(hn:-10000000000<=n/\n<=10000000000):∀y j,-10000000000<=AT a i k n y j/\AT a i k n y j<=10000000000:=fun y j=>by
 unfold AT
 split
 . exact hn
 . exact h _ _
theorem DI.act{d:Dk}(h:DI d m){ws:List V7}:DI (act k d ws).1 (m+1):=by
 have hw:=h.le (Nat.le_succ m)
 unfold Go.Proofs.YtnepnnkdgejheaaGreatDoor.act
 split
 . unfold setA
   split
   . rename_i hc
     rw[Bool.and_eq_true] at hc;have j:-10000000000<nV (gS ws 2)/\nV (gS ws 2)<10000000000:=Jkq hc.1.2;exact⟨Jne h.a (show -10000000000<=nV (gS ws 2)/\nV (gS ws 2)<=10000000000 by omega),hw.ft,hw.st,h.rp,h.rn⟩
   . exact hw
 split
 . split
   . unfold Ws
     split
     . exact⟨h.a,by show(d.ft++[_]).length<=m+1;have:=h.ft;simp;omega,hw.st,h.rp,h.rn⟩
     . exact hw
   . exact hw
 split
 . split
   . unfold BL
     split
     . rename_i y
       split
       . exact⟨h.a,hw.ft,by show(d.st++List.replicate _ _).length<=300*(m+1);have:=h.st;rw[List.length_append,List.length_replicate];omega,h.rp,h.rn⟩
       . exact hw
     . exact hw
   . exact hw
 split
 . unfold MF
   split
   . rename_i hf
     have ok:=YY hf;exact⟨h.a,hw.ft,hw.st,Jj6 ok _ (Nat.le_refl _),by show(rpU _ _ _ _).length<=300;rw[CH];exact ok.ns⟩
   . exact hw
 split
 . exact hw
 split
 . exact hw
 . exact⟨h.a,Nat.zero_le _,Nat.zero_le _,fun r y=>(by cases y),Nat.zero_le _⟩
theorem DI.ans{d:Dk}(h:DI d m)(l:V7):DI (ans d l).1 (m+1):=by
 unfold Go.Proofs.YtnepnnkdgejheaaGreatDoor.ans lnA
 split
 . exact h.le (Nat.le_succ m)
 . split
   . exact h.le (Nat.le_succ m)
   . split
     . exact h.act
     . exact h.le (Nat.le_succ m)
theorem DI.desks:∀{ls:List V7} {d:Dk} {m:Nat},DI d m->DI (desks d ls) (m+ls.length)
 |[],_,_,h=>h
 |x::r,d,m,h=>by
  have:=DI.desks (ls:=r) (h.ans x);rw[show m+(x::r).length=m+1+r.length by simp;omega];exact this
theorem Ep{g:Nat}(h:g≠D):∀(y:List Value) (o:Nat) (u:V6),(u.setCells D o y).heap[g]?=u.heap[g]?
 |[],_,_=>rfl
 |v::r,o,u=>(Ep h r (o+1) (u.setCell ⟨D,o,none⟩ v)).trans (heap_setCell_other u ⟨D,o,none⟩ g v h)
theorem Row.setC{α:Type}{f:α->List Value}{t':TypeId}{rs:List α}(h:Row f m t K u s rs)(k:Blk t' u D cs)(ha:t'≠t):Row f m t K (u.setCells D o vs) s rs:=by
 refine⟨h.1,?_⟩
 rcases h.2 with h2|⟨g,cap,hc,e,j,y,h3⟩
 . exact .inl h2
 . refine .inr ⟨g,cap,hc,e,j,(Ep (fun w=>?_) vs o u).trans y,h3⟩;subst w;rw[k] at y
   cases y
   exact ha rfl
theorem Dt.setC(h:Dt K u v)(y:Blk t v D cs)(hK:K<=D)(j:t∈dT):Dt K u (v.setCells D o vs):=by
 have hl:=Zo vs o v (Below.refl K v) hK;refine h.trans ⟨hl.os,hl.tape,hl.output,hl.size,fun b x e q=>?_⟩
 have ha:b≠D:=by
  rintro rfl
  rcases q with q|q
  . omega
  . rw[y] at e;cases e;exact q ⟨_,_,_,rfl,j⟩
 exact(Ep ha vs o v).trans e
def RnP(K D:Nat)(g:Nat->Nat)(x:Dk×ByteArray)(w:V6)(e:Ending)(w':V6):Prop:=Dt K w w'/\(∃sf ss sr,PD false K D g x.1 sf ss sr w')/\e=.returned (.string x.2)
theorem RnP.of{g:Nat->Nat}{x y:Dk×ByteArray}{s:V7}(e:x=y)(hd:Dt K w w')(h:PD false K D g y.1 sf ss sr w')(hs:s=y.2):RnP K D g x w (.returned (.string s)) w':=by
 subst e hs;exact⟨hd,⟨_,_,_,h⟩,rfl⟩
theorem Jsc(a:Nat->Nat->Int)(g:Nat->Nat)(h y j:Value)(hi:i<2):((dkL false (crL (UC a g)) h y j).drop (i*15)).take 15=axL (UC a g) i:=by
 rcases Qtw i with rfl|rfl<;>rfl
theorem Jqs(a:Nat->Nat->Int)(g:Nat->Nat)(k:Nat)(n:Int)(h y j:Value)(hi:i<2):B8 (dkL false (crL (UC a g)) h y j) (i*15) (axL (UC (AT a i k n) g) i)=dkL false (crL (UC (AT a i k n) g)) h y j:=by
 rcases Qtw i with rfl|rfl<;>kernel_rfl
theorem Jng(a:Nat->Nat->Int)(g:Nat->Nat)(n:Int)(s:V7){j:Nat}(hi:i<2)(h:BE s=some j):axS s n (axL (UC a g) i)=axL (UC (AT a i (fo j) n) g) i:=by
 have ha:=(Q8 h).1
 unfold axS
 rw[h]
 rcases Qtw i with rfl|rfl<;>rcases(show j=0\/j=1\/j=2\/j=3\/j=4\/j=5\/j=6\/j=7\/j=8\/j=9\/j=10\/j=11\/j=12 by omega) with rfl|rfl|rfl|rfl|rfl|rfl|rfl|rfl|rfl|rfl|rfl|rfl|rfl<;>rfl
theorem Jnh(s:V7)(n:Int)(C:CR)(i:Nat):(axS s n (axL C i)).length=15:=by
 unfold axS
 split
 . rw[List.length_set];rfl
 . rfl
theorem Jni(s:V7)(n:Int)(C:CR)(i:Nat):(axS s n (axL C i)).all (·.oneCell')=true:=by
 unfold axS
 split
 . rename_i j h
   have:=(Q8 h).1
   rcases(show j=0\/j=1\/j=2\/j=3\/j=4\/j=5\/j=6\/j=7\/j=8\/j=9\/j=10\/j=11\/j=12 by omega) with rfl|rfl|rfl|rfl|rfl|rfl|rfl|rfl|rfl|rfl|rfl|rfl|rfl<;>rfl
 . rfl
theorem PD.putA{g:Nat->Nat}{d:Dk}(h:PD false K D g d sf ss sr u)(hi:i<2)(k:Nat)(n:Int):PD false K D g ⟨AT d.a i k n,d.ft,d.st,d.rp⟩ sf ss sr (u.setCells D (i*15) (axL (UC (AT d.a i k n) g) i)):=
 have y:Below K u (u.setCells D (i*15) (axL (UC (AT d.a i k n) g) i)):=Zo _ _ u (Below.refl _ _) h.kd
 ⟨h.kd,h.gk,PV (a:=d.a) h.ln y h.gk,by
  have:=Blk.setCells (axL (UC (AT d.a i k n) g) i) (i*15) u _ h.bk;rw[Jqs d.a g k n sf ss sr hi] at this
  exact this,h.ft.setC h.bk (by decide),h.st.setC h.bk (by decide),h.rp.setC h.bk (by decide)⟩
theorem Jj8(D:Nat)(p:V8)(n c:Nat)(hn:n≠3)(w:V6):Va 18 #[Ve D 0,.slice p n c] w (Re w (.string AN)):=by
 have n1:¬((n:Nat):Int)=3:=by omega
 have h:(((n:Nat):Int)==3)=false:=by simpa using n1
 go_enter func18,ntmps18
 go_wp2_with fail;go_ret;exact⟨rfl,rfl⟩
theorem LC(cr:List Value)(y j m:Value)(h:cr.length=32):((dkL false cr y j m).drop 0).take 32=cr:=by
 show(cr++[y,j,m]).take 32=cr
 rw[List.take_append_of_le_length (by omega),List.take_of_length_le (by omega)]
abbrev zAx:List Value:=Qbi
theorem Jj9(D:Nat)(p:V8)(c:Nat)(j G e:V7)(Y:j.size<=100000)(X:e.size<=100000)(y:¬((nC j&&nC e)=true/\0<=nV j/\nV j<=1))(w:V6)(hs:TxL w p [j,G,e]):
 Va 18 #[Ve D 0,.slice p 3 c] w (Rt w (.string AN)):=by
 obtain⟨R,T,rfl,_,hc⟩:=hs.at;have H:=hc 0 j rfl;rw[Nat.add_zero] at H;have Z:=Za (hc 2 e rfl);have h0:=fun u=>Mc j Y u;have h2:=fun u=>Mc e X u;clear hc hs Y X
 cases q0:nC j
 case false=>
  rw[C9 q0] at h0
  cases q2:nC e
  case' false=>rw[C9 q2] at h2
  case' true=>rw[Ua q2] at h2
  all_goals
   clear y q0 q2
   go_enter func18,ntmps18
   go_upto_region 5 with(first
    |(go_at_call 42;refine Sb (h0 _) fun v1 y=>?_;have m:=Za y;have Q:=cell_later y Z.o;clear y H h0)
    |(go_at_call 42;refine Sb (h2 _) fun v2 y=>?_;replace m:=Za (Zc m.o y);clear y))
   go_wp2_with fail;go_ret;exact⟨rfl,m.o⟩
 case true=>
  rw[Ua q0] at h0
  cases q2:nC e
  case false=>
   rw[C9 q2] at h2;clear y q0 q2
   go_enter func18,ntmps18
   go_upto_region 5 with(first
    |(go_at_call 42;refine Sb (h0 _) fun v1 y=>?_;have m:=Za y;have Q:=cell_later y Z.o;clear y H h0)
    |(go_at_call 42;refine Sb (h2 _) fun v2 y=>?_;replace m:=Za (Zc m.o y);clear y))
   go_wp2_with fail;go_ret;exact⟨rfl,m.o⟩
  case true=>
   rw[Ua q2] at h2
   have ha:A1 (nV j) 0 1=false:=by
    rw[q0,q2] at y
    unfold A1
    by_cases h:0<=nV j<;>simp[h] at y|-<;>omega
   have hd:=Zy (nV j) 0 1;rw[ha] at hd;clear y q0 q2 ha;generalize nV j=m0 at *;generalize nV e=m2 at*
   go_enter func18,ntmps18
   go_upto_region 5 with(first
    |(go_at_call 42;refine Sb (h0 _) fun v1 y=>?_;have m:=Za y;have Q:=cell_later y Z.o;clear y H h0)
    |(go_at_call 42;refine Sb (h2 _) fun v2 y=>?_;replace m:=Za (Zc m.o y);clear y))
   go_wp2_with (go_at_call 22;refine Sm (hd _) ?_);go_ret;exact⟨rfl,m.o⟩
theorem Jnj(K D:Nat)(g:Nat->Nat)(d:Dk)(sf ss sr:Value)(p:V8)(c:Nat)(H m Z:V7)(z0:H.size<=100000)(z2:Z.size<=100000)(q0:nC H=true)(I:nC Z=true)(L:0<=nV H/\nV H<=1)(w:V6)(hg:GW K a w)(hs:TxL w p [H,m,Z])(h:PD false K D g d sf ss sr w):
 Va 18 #[Ve D 0,.slice p 3 c] w (RnP K D g (setA d H m Z) w):=by
 obtain⟨gw,ow,rfl,_,hc⟩:=hs.at;have x0:=hc 0 H rfl;rw[Nat.add_zero] at x0;have Hk:=Za (hc 1 m rfl);have Hl:=Za (hc 2 Z rfl);have h0:=fun u=>Mc H z0 u;have h2:=fun u=>Mc Z z2 u;rw[Ua q0] at h0;rw[Ua I] at h2;obtain⟨i,hi⟩:∃i:Nat,nV H=i:=⟨(nV H).toNat,by omega⟩
 have hh:i<2:=by omega
 have ha:=Zy (nV H) 0 1;rw[Xs L.1 L.2,hi] at ha;rw[hi] at h0
 have i0:(0:Int)<=(i:Int):=by omega
 have i1:(i:Int)<2:=by omega
 have C:Hd (setA d H m Z=if(BE m).isSome=true then(⟨AT d.a i (fo ((BE m).getD 0)) (nV Z),d.ft,d.st,d.rp⟩,Yt (crE (UC (AT d.a i (fo ((BE m).getD 0)) (nV Z)) g0))) else(d,AN)):=Za (by
  unfold setA
  rw[q0,I,hi]
  by_cases Y:(BE m).isSome=true
  . rw[if_pos ⟨rfl,i0,by omega,Y⟩,if_pos Y];simp
  . rw[if_neg (fun h=>Y h.2.2.2),if_neg Y])
 have E:=Za hh;have Q:=Za h;have HG:=Za hg;generalize nV Z=n at *;have Hm:=Za (Jj5 (UC d.a g) i m n);clear hc hs z0 z2 q0 I L hi hh h hg
 go_enter func18,ntmps18
 go_upto_region 7 with(first
  |(go_at_call 42;refine Sb (h0 _) fun v1 G=>?_;have X:=Za G;have x2:=cell_later G Hl.o;clear G x0 h0)
  |(go_at_call 42;refine Sb (h2 _) fun v2 G=>?_;replace X:=Za (Zc X.o G);clear G x2 h2)
  |(go_at_call 22;refine Sm (ha _) ?_))
 have x1:=cell_later X.o Hk.o;replace Q:=Za (Q.o.lq X.o);have Hn:=Za (Xz Q.o.bk (i*15) 15 (Jsc d.a g sf ss sr E.o));clear ha Hk Hl;refine Cs [40,41,42,43,44,45,46,47,48,49,50,51,39,52,53,9] ?_;refine Cp 0 40 [] ?_;refine Cp 1 41 [] ?_;refine Cp 2 42 [0] ?_;refine Cp 3 43 [2] ?_;refine Cp 4 44 [3] ?_;refine Cp 5 45 [1,4] ?_;refine Cl (x:=.tmp 45) 6 46 [5] (fun y w hF u hd=>⟨Zf Hn.o hd,hF.1⟩) underlying38 Zq ?_;refine Cp 7 47 [] ?_;refine Cp 8 48 [7] ?_;refine Cq (V5 x1) 9 49 [8] ?_;refine Cp 10 50 [] ?_;refine Cc 11 51 [6,9,10] (fun y w h _=>Hm.o w) ?_;refine Cp 12 39 [11] ?_;refine Cp 13 52 [12] ?_;refine Cp 14 53 [12] ?_;refine Ca (z:=zAx) (t:=38) 15 9 ?_;refine Cn 2 18 [16,17] (fun y T R Y=>?_);obtain⟨J,e,hA,hk⟩:=Y.1;(try simp only[e]);have O:Hd (Blk 38 T J zAx):=Za hA;have Hw:=Za hk;have Ho:=Za R;clear Y e hA hk R x1 Hn;have F:=Za (Jnh m n (UC d.a g) i);have Hb:=Za (Jni m n (UC d.a g) i);have Hp:Hd (∀j,BE m=some j->axS m n (axL (UC d.a g) i)=axL (UC (AT d.a i (fo j) n) g) i):=Za (fun j M=>Jng d.a g n m E.o M);generalize axS m n (axL (UC d.a g) i)=AX at *;generalize hl:(BE m).isSome=ok at *;have Hq:=Za hl;clear hl;refine Ra 16 (fun K hK=>?_);rw[if_pos (by rfl)];refine Z2 38 (.tmp 9) (.tmp 52) rfl J 0 AX.toArray rfl rfl (O.o.there (o:=0) (n:=AX.toArray.size) (by rw[List.size_toArray,F.o];decide)) (by rw[List.size_toArray,F.o];exact Zq) (Zm _ Hb.o) rfl ?_;have N:=Za (Zo AX 0 T Ho.o Hw.o);have U:Hd (Blk 38 (T.setCells J 0 AX) J AX):=Za (by have k:=Blk.setCells AX 0 T _ O.o;rwa[U1 AX zAx (by rw[F.o];rfl)] at k);refine hK.out _ _ N.o (fun _=>?_);clear hK K O Ho;refine Th 17 rfl (by intro w hd;clear hd;go_simp;(try with_reducible rfl)) N.o ?_;simp only[Act.put,Ly];refine Dn ?_;go_simp;generalize T.setCells J 0 _=v4 at *;refine Ek ?_;replace Q:=Za (Q.o.lq N.o);replace X:=Za (Zc X.o N.o);clear N Hm
 cases ok
 case false=>
  have A:Hd (setA d H m Z=(d,AN)):=Za (by rw[C.o];rfl);clear C U;go_wp2_with fail;go_ret;exact RnP.of A.o (.of X.o) (Q.o) rfl
 case true=>
  obtain⟨j,M⟩:=Option.isSome_iff_exists.1 Hq.o;have hn:=Hp.o j M;have A:Hd (setA d H m Z=(⟨AT d.a i (fo j) n,d.ft,d.st,d.rp⟩,Yt (crE (UC (AT d.a i (fo j) n) g0)))):=Za (by rw[C.o,if_pos rfl,M];rfl);subst hn;clear M Hq Hp C F Hb;generalize fo j=f at*
  go_upto_region 10 with fail;have Hr:=Za U.o.range;refine Ct [56,57,58,59,60,61] ?_;refine Cp 0 56 [] ?_;refine Cp 1 57 [] ?_;refine Cr (x:=.tmp 9) 2 58 [] (fun y w h _=>⟨Zf Hr.o h,rfl⟩) underlying38 Zq ?_;refine Cp 3 59 [0] ?_;refine Cp 4 60 [3] ?_;refine Cp 5 61 [4] ?_;refine Cn 2 8 [6,7] (fun y u3 R Y=>?_);have P:=Za (Q.o.lq R);have Hs:=Za (Zc X.o R);clear Y R Q X Hr U;refine Tq 6 trivial ?_;simp only[Act.put,Ly];refine Ra 7 (fun K9 hK=>?_);rw[if_pos (by rfl)];refine Z2 38 (.tmp 62) (.tmp 58) rfl D (i*15) (axL (UC (AT d.a i f n) g) i).toArray (by go_simp) rfl (P.o.bk.there (o:=i*15) (n:=15) (by show i*15+15<=35;have:=E.o;omega)) Zq (Zm _ rfl) rfl ?_;refine hK.out _ _ trivial (fun _=>?_);clear hK K9;refine Dn ?_;have B:=Za (P.o.putA E.o f n);have Ht:Hd (Dt K w (u3.setCells D (i*15) (axL (UC (AT d.a i f n) g) i))):=Za ((Dt.of (K:=K) Hs.o).setC P.o.bk P.o.kd (by decide));clear P Hs;go_simp;generalize u3.setCells D _ _=v5 at *;have Hx:=Za (Xz B.o.bk 0 32 (LC _ _ _ _ (X4 _)));have Hu:=Za (KX (UC (AT d.a i f n) g) v5 B.o.ln);have Hv:=Za (fun u (G:Bw v5 u)=>Uf (crE (UC (AT d.a i f n) g)) (ZL _).ok u ((HG.o.dt Ht.o).lq G));rw[Joa _ g g0] at Hu Hv;refine Ek ?_
  go_wp2_with (first
   |(refine EM 41 _ rfl ?_;refine wpList_load_mid rfl 41 (.tmp 65) rfl D 0 rfl (crL (UC (AT d.a i f n) g)) _ Hx.o underlying41 rfl Zr ?_)
   |(go_at_call 44;refine Hu.o.mono ?_;rintro e v6 ⟨rfl,W⟩)
   |(go_at_call 21;refine Sb (Hv.o _ W) fun v7 hm=>?_))
  go_ret;exact RnP.of A.o ((Ht.o.lq W).lq hm) ((B.o.lq W).lq hm) rfl
theorem Jka(K D:Nat)(g:Nat->Nat)(d:Dk)(Z Y X:Value)(p:V8)(c:Nat)(y m j:V7)(Q:y.size<=100000)(G:j.size<=100000)(w:V6)(R:GW K a w)(hs:TxL w p [y,m,j])(h:PD false K D g d Z Y X w):
 Va 18 #[Ve D 0,.slice p 3 c] w (RnP K D g (setA d y m j) w):=by
 by_cases hq:(nC y&&nC j)=true/\0<=nV y/\nV y<=1
 . have H:=(Bool.and_eq_true_iff.1 hq.1);exact Jnj K D g d Z Y X p c y m j Q G H.1 H.2 hq.2 w R hs h
 . refine Sb (Jj9 D p c y m j Q G hq w hs) fun w' H=>?_
   have e:setA d y m j=(d,AN):=by unfold setA;rw[if_neg (fun h=>hq ⟨h.1,h.2.1,h.2.2.1⟩)]
   exact RnP.of e (.of H) (h.lq H) rfl
abbrev pX(X n:Nat):Option Addr:=some (if n=0 then⟨X,0,none⟩ else⟨X,1,none⟩)
theorem Je3(X n:Nat)(u:V6):(Instr.slice 24 (Vf X 0 (n+1) (n+1)) (some (Vi 1)) none none).run prog u=.ok (.slice (pX X n) n n) u:=by
 have ht':prog.underlying 24=some (.slice (prog.elem 24)):=by simp[Program.elem]
 have h:prog.elem 24=9:=by simp[Program.elem]
 rw[run_slice_l u _ _ _ _ ht' .i64 _ (by omega) (by omega),h,(show(Go.sizeOf 9).run prog u=.ok 1 u by kernel_rfl)]
 unfold pX
 by_cases h0:n=0
 . subst h0;rfl
 . simp[Result.andThen,sliced,Addr.add,h0]
theorem VL(X n:Nat)(u:V6):(Instr.sliceAt 24 (Vf X 0 (n+1) (n+1)) (some (Vi 1)) none none).run prog u=.ok (.slice (pX X n) n n) u:=by
 unfold Instr.sliceAt
 simp only[Sem.run_bind,run_underlying O9,Result.andThen_ok];exact Je3 X n u
theorem Jcm{o:Oper}{a:Act}(x:Operand)(ho:o.op=.slice 24 x (some (.const (Vi 1))) none none)(hx:a.eval x=Vf X 0 (n+1) (n+1)):(execOp a.eval o).run prog u=.ok (.value (.slice (pX X n) n n)) u:=by
 unfold execOp
 simp only[ho,hx,Option.map_some,Option.map_none,show a.eval (.const (Vi 1))=Vi 1 from rfl,Sem.run_bind,VL,Result.andThen_ok,Sem.run_pure]
theorem Ub{a:Act}(X n:Nat)(x:Operand)(ho:op.op=.slice 24 x (some (.const (Vi 1))) none none)(hx:a.eval x=Vf X 0 (n+1) (n+1))(h:wpList prog ops Q rest (a.put op.dst (.slice (pX X n) n n)) w)(ha:op.guard=none:=by rfl):wpList prog ops Q (op::rest) a w:=by
 refine wpList_plain ha fun _ hK=>?_
 unfold Oper.wp
 rw[Jcm x ho hx,Oper.upon_value];exact hK _ _ h
theorem Jof{s:V7}{r:List V7}{z:Nat×Nat}(h:u.heap[X]?=some (.cells ((s::r).map Value.string).toArray 9 z))(h0:r≠[]):TxL u (pX X r.length) r:=
 ⟨X,1,_,z,by unfold pX;rw[if_neg (by simpa using h0)],h,fun j x y=>by rw[List.getElem?_toArray,Nat.add_comm,List.map_cons,List.getElem?_cons_succ,List.getElem?_map,y];rfl⟩
theorem QE:(prog.info? 86).map (·.size)=some 2:=by kernel_rfl
theorem Jsr{P:Program}{args:Array Value}{Q:Ending->World->Prop}(_:Hd (k<7))(h:Calls P (30+k) args w Q):Calls P (30+k) args w Q:=h
def AnP(K D:Nat)(g:Nat->Nat)(x:Dk×ByteArray)(w:V6)(e:Ending)(w':V6):Prop:=Dt K w w'/\(∃sf ss sr,PD true K D g x.1 sf ss sr w')/\e=.returned (.string x.2)
theorem AnP.of{g:Nat->Nat}{x y:Dk×ByteArray}{s:V7}(e:x=y)(hd:Dt K w w')(h:∃sf ss sr,PD true K D g y.1 sf ss sr w')(hs:s=y.2):AnP K D g x w (.returned (.string s)) w':=by
 subst e hs;exact⟨hd,h,rfl⟩
theorem Jnk{M:Nat}{es:Array MapEntry}{c:Nat}(h:u.heap[M]?=some (.map es c))(hd:Dt K u v):v.heap[M]?=some (.map es c):=hd.blk M _ h (.inr (by rintro⟨_,_,_,e,_⟩;cases e))
theorem Jkb(K D:Nat)(g:Nat->Nat)(d:Dk)(m:Nat)(hd:DI d m)(hm:m<=10000)(C E F:Value)(M:Nat)(line s:V7)(r:List V7)(hz:line.size<=100000)(hs:spl line blS=s::r)(w:V6)(U:GW K a w)(hM:w.heap[M]?=some (.map J9 7))(h:PD true K D g d C E F w):
 Va 15 #[Ve D 0,.map (some M),.string line] w (AnP K D g (lnA d (s::r)) w):=by
 obtain⟨mm,hp⟩:=U.ml;have hi:=O1 line blS mm w hp;have ha:=U6 line blS;rw[hs,List.length_cons] at ha;rw[show Lib.splitB blS 0 (Lib.countB line blS) line=s::r from hs,<-ha] at hi;have hq:∀x∈r,x.size<=100000:=fun x hx=>Q9 hz x (by rw[hs];exact .tail _ hx);have Hg:=Za hq;have Y:=Za h;have Q:=Za U;have G:=Za hM;have HD:=Za hd;have Hh:=Za hm
 have i1:(0:Int)<((r.length+1:Nat):Int):=by omega
 clear hq h U hM hd hm ha hs hp hz
 go_enter func15,ntmps15
 go_upto_region 2 with(go_at_call 10;refine hi.mono ?_;rintro e v1 ⟨rfl,rfl⟩);have HW:=Za (World.alloc_heap_new w (.cells ((s::r).map Value.string).toArray 9));have H:=Za (Zb w (.cells ((s::r).map Value.string).toArray 9));generalize hr:w.alloc (.cells (Value.string s::r.map Value.string).toArray 9)=v1;have hu:w.alloc (.cells ((s::r).map Value.string).toArray 9)=v1:=hr;rw[hu] at HW H;clear hr hu;generalize hX:w.heap.size=X at HW|-;clear hX hi
 have x0:v1.cell? (Ad X 0)=some (.string s):=by
  simp only[World.cell?,HW.o]
  simp
 refine Cs [16,17,18,19,20,8,9] ?_;refine Cp 0 16 [] ?_;refine Cp 1 17 [0] ?_;refine Cq (V5 x0) 2 18 [1] ?_;refine Cp 3 19 [] ?_;refine Cp (v:=.slice (pX X r.length) r.length r.length) 4 20 [3] ?_ (hy:=fun y w hF u=>Jcm (.tmp 19) rfl hF.1);refine Cp 5 8 [2] ?_;refine Cp 6 9 [4] ?_;refine Ce (fun y u1 A hf=>?_);replace H:=Za (Zc H.o A);replace HW:=Za ((A.block X (Array.getElem?_eq_some_iff.1 HW.o).1).trans HW.o);clear A hf x0;go_simp;generalize u1=v2 at *;refine Ek ?_;replace Y:=Za (Y.o.lq H.o);replace G:=Za ((H.o.block M (Array.getElem?_eq_some_iff.1 G.o).1).trans G.o);have hl:=Jj1 s M v2 G.o;clear i1;have B:=(Q.o.lq H.o).gv
 cases hk:Q7 s with
 |none=>
  have R:Hd (lnA d (s::r)=(d,AN)):=Za (by simp only[lnA,hk]);rw[hk] at hl;replace hl:(Instr.lookup 54 (.map (some M)) (.string s) true).run prog v2=.ok (.tuple #[.agg #[Vi 0,.nilFunc],.bool false]) v2:=hl;clear hk B
  go_upto_region 4 with(refine CS 86 _ _ rfl ?_;refine U5 86 [Vi 0,.nilFunc] (.tmp 10) (.tmp 25) rfl QE rfl ?_);replace H:=Za (Zc H.o (Zb v2 (.cells #[Vi 0,.nilFunc] 86)));replace Y:=Za (Y.o.lq (Zb v2 (.cells #[Vi 0,.nilFunc] 86)));clear hl G HW;generalize v2.alloc (.cells #[Vi 0,.nilFunc] 86)=v3 at *;have T:=(Q.o.lq H.o).eb;have J:=Eo a v3 (Q.o.lq H.o).gv
  go_wp2_with (go_at_call 38;refine J.mono ?_;rintro e I ⟨rfl,Z⟩);go_ret;exact AnP.of R.o (.of (Zc H.o Z)) ⟨C,E,F,Y.o.lq Z⟩ rfl
 |some k=>
  have P:=(Jcj hk).1
  by_cases hw:r.length=ZM k
  case neg=>
   have R:Hd (lnA d (s::r)=(d,AN)):=Za (by simp only[lnA,hk];rw[if_neg hw]);rw[hk] at hl
   replace hl:(Instr.lookup 54 (.map (some M)) (.string s) true).run prog v2=.ok (.tuple #[.agg #[Vi (ZM k:Nat),.func (.func (30+k)) #[] #[]],.bool true]) v2:=by simpa using hl
   generalize ZM k=n at*
   have n1:¬((r.length:Nat):Int)=((n:Nat):Int):=by omega
   have n2:(((r.length:Nat):Int)==((n:Nat):Int))=false:=beq_eq_false_iff_ne.2 n1;clear hk B hw P
   go_upto_region 4 with(refine CS 86 _ _ rfl ?_;refine U5 86 [Vi (n:Nat),.func (.func (30+k)) #[] #[]] (.tmp 10) (.tmp 25) rfl QE rfl ?_);have hc:=Blk.new v2 86 [Vi (n:Nat),.func (.func (30+k)) #[] #[]];replace H:=Za (Zc H.o (Zb v2 (.cells #[Vi (n:Nat),.func (.func (30+k)) #[] #[]] 86)));replace Y:=Za (Y.o.lq (Zb v2 (.cells #[Vi (n:Nat),.func (.func (30+k)) #[] #[]] 86)));have y0:=(hc.cell (j:=0) rfl).1;clear hl G HW hc;generalize v2.alloc (.cells #[Vi (n:Nat),.func (.func (30+k)) #[] #[]] 86)=v3 at *;generalize v2.heap.size=X2 at *;have T:=(Q.o.lq H.o).eb;have J:=Eo a v3 (Q.o.lq H.o).gv
   go_wp2_with (go_at_call 38;refine J.mono ?_;rintro e I ⟨rfl,Z⟩);go_ret;exact AnP.of R.o (.of (Zc H.o Z)) ⟨C,E,F,Y.o.lq Z⟩ rfl
  case pos=>
   have R:Hd (lnA d (s::r)=act k d r):=Za (by simp only[lnA,hk];rw[if_pos hw]);rw[hk] at hl
   replace hl:(Instr.lookup 54 (.map (some M)) (.string s) true).run prog v2=.ok (.tuple #[.agg #[Vi (r.length:Nat),.func (.func (30+k)) #[] #[]],.bool true]) v2:=by rw[hw];simpa using hl
   have Hf:=Za P;have ho:=Jj2 k P;have L:=Za (fun u (Z:Bw v2 u)=>Jqp k P K D g d m HD.o Hh.o C E F (pX X r.length) r.length r hw Hg.o u (Q.o.lq (Zc H.o Z)) (Jof ((Z.block X (Array.getElem?_eq_some_iff.1 HW.o).1).trans HW.o)) (Y.o.lq Z));generalize act k d r=x at *;clear hk B hw P
   go_upto_region 4 with(refine CS 86 _ _ rfl ?_;refine U5 86 [Vi (r.length:Nat),.func (.func (30+k)) #[] #[]] (.tmp 10) (.tmp 25) rfl QE rfl ?_);have hc:=Blk.new v2 86 [Vi (r.length:Nat),.func (.func (30+k)) #[] #[]];replace H:=Za (Zc H.o (Zb v2 (.cells #[Vi (r.length:Nat),.func (.func (30+k)) #[] #[]] 86)));replace L:=Za (L.o _ (Zb v2 (.cells #[Vi (r.length:Nat),.func (.func (30+k)) #[] #[]] 86)));have y0:=(hc.cell (j:=0) rfl).1;have y1:=(hc.cell (j:=1) rfl).1;clear hl G HW hc Y;generalize v2.alloc (.cells #[Vi (r.length:Nat),.func (.func (30+k)) #[] #[]] 86)=v3 at *;generalize v2.heap.size=X2 at*
   go_upto_region 7 with(refine Jsr Hf ?_;refine L.o.mono ?_;rintro e I ⟨hA,hC,s',v',rfl,hv⟩;have N:=Za hA;have W:=Za hC;have O:=Za hv;clear hA hC hv);replace N:=Za ((Dt.of H.o).trans N.o);replace Q:=Za (Q.o.dt N.o);clear y0 y1 L ho Hf H
   rcases O.o with⟨rfl,rfl⟩|⟨rfl,T⟩|⟨n,hn,h0,rfl,T⟩
   . clear O;go_wp2_with fail;go_ret;exact AnP.of R.o N.o W.o rfl
   . have HS:=Za T;have J:=Eo a I Q.o.gv;clear O T
     go_wp2_with (go_at_call 38;refine J.mono ?_;rintro e v5 ⟨rfl,Z⟩);go_ret;obtain⟨_,_,_,h⟩:=W.o;exact AnP.of R.o (N.o.lq Z) ⟨_,_,_,h.lq Z⟩ HS.o.symm
   . have HS:=Za T;have J:=VJ n hn h0 I Q.o;clear O T
     go_wp2_with (go_at_call 38;refine J.mono ?_;rintro e v5 ⟨rfl,Z⟩);go_ret;obtain⟨_,_,_,h⟩:=W.o;exact AnP.of R.o (N.o.lq Z) ⟨_,_,_,h.lq Z⟩ HS.o.symm
theorem ZO(K D:Nat)(g:Nat->Nat)(d:Dk)(m:Nat)(hd:DI d m)(H:m<=10000)(y j e:Value)(M:Nat)(line:V7)(Z:line.size<=100000)(w:V6)(Y:GW K a w)(X:w.heap[M]?=some (.map J9 7))(h:PD true K D g d y j e w):
 Va 15 #[Ve D 0,.map (some M),.string line] w (AnP K D g (ans d line) w):=by
 have hl:=U6 line blS
 cases hs:spl line blS with
 |nil=>rw[hs] at hl;cases hl
 |cons s r=>
  have:=Jkb K D g d m hd H y j e M line s r Z hs w Y X h
  unfold ans
  rw[hs];exact this
theorem Uc{s:V7}{r:List V7}{z:Nat×Nat}(h:u.heap[X]?=some (.cells ((s::r).map Value.string).toArray 9 z)):TxL u (pX X r.length) r:=by
 by_cases h0:r=[]
 . subst h0;exact⟨X,0,_,z,rfl,h,fun j x y=>by simp at y⟩
 . exact Jof h h0
def Jkc:List V7:=[Wu,BS,atS,RZ,C0,C1]
def VM(k:Nat):Nat:=[5,9,1,0,0,0].getD k 0
abbrev Zp:Array MapEntry:=#[⟨.string Wu,Vi 5,0⟩,⟨.string BS,Vi 9,1⟩,⟨.string atS,Vi 1,2⟩,⟨.string RZ,Vi 0,3⟩,⟨.string C0,Vi 0,4⟩,⟨.string C1,Vi 0,5⟩]
def CT(s:V7):Option Nat:=Jkc.findIdx? (s==·)
theorem Je4(s:V7):Instr.findNow .string (.string s) Zp.toList 0=some ((CT s).map fun j=>(0+j,Vi (VM (0+j):Nat))):=DG s (fun j=>Vi (VM j:Nat)) Jkc 0 _ rfl
theorem Up(s:V7)(M:Nat)(u:V6)(h:u.heap[M]?=some (.map Zp 6)):(Instr.lookup 61 (.map (some M)) (.string s) true).run prog u=.ok (.tuple #[Vi (((CT s).map fun j=>(VM j:Nat)).getD 0:Nat),.bool (CT s).isSome]) u:=by
 rw[J8 (s:=s) underlying61 underlying9 h (Tryz.zeroValue3 u) (Je4 s)]
 cases CT s<;>simp
theorem EP(p:V8)(c N:Nat)(l:V9)(r:List V7)(hl:r.length=N)(y:∀s∈r,s.size<=100000)(hn:r.all nC=true)(j:r.map nV=l)(w:V6)(hs:TxL w p r)(hN:N<=1000:=by decide):
 Va 19 #[.slice p N c] w fun e w'=>∃s,e=.returned (.tuple #[s,.bool true])/\CV w.heap.size w' s l/\Bw w w':=by
 have h:=EO p c r (by omega) y w hs;rw[hl] at h;refine h.mono ?_;rintro e w' ⟨h1,h2⟩;rw[if_pos hn] at h1;obtain⟨s,rfl,hi⟩:=h1;exact⟨s,rfl,j▸hi,h2⟩
theorem Jkd(p:V8)(c N:Nat)(l:V9)(r:List V7)(hl:r.length=N)(hN:N<=1000)(h0:0<N)(H:∀s∈r,s.size<=100000)(hn:r.all nC=true)(y:r.map nV=l)(w:V6)(hs:TxL w p r):
 Va 19 #[.slice p N c] w fun e w'=>∃q h,e=.returned (.tuple #[Vf q 0 N h,.bool true])/\N9 w' q l/\Bw w w':=by
 refine(EP p c N l r hl H hn y w hs (hN:=hN)).mono ?_;rintro e w' ⟨s,rfl,hi,Z⟩
 have ha:l.length=N:=by rw[<-y,List.length_map,hl]
 obtain⟨q,h,rfl⟩:=hi.slice;obtain⟨Y,rfl,_,hc⟩:=Row.at (f:=iL) (m:=1) (fun _=>rfl) hi (by intro e;rw[e] at ha;simp at ha;omega);rw[ha];exact⟨Y,h,rfl,fun j x hx=>by have:=hc j x hx 0 _ rfl;simpa using this,Z⟩
theorem Ud{s:V7}{r:List V7}{z:Nat×Nat}(h:u.heap[X]?=some (.cells ((s::r).map Value.string).toArray 9 z)):u.cell? (Ad X 0)=some (.string s):=by
 simp only[World.cell?,h]
 simp
theorem ZP{d:Dk}(h:ftE (UC d.a g0) f=0):Ws d f=(⟨d.a,d.ft++[f],d.st,d.rp⟩,Yt 0):=by unfold Ws;rw[if_pos h];rfl
theorem Je5{d:Dk}(h:ftE (UC d.a g0) f≠0):Ws d f=(d,Yt (ftE (UC d.a g0) f)):=by unfold Ws;rw[if_neg h]
theorem Je6(K D:Nat)(g:Nat->Nat)(d:Dk)(m:Nat)(hd:DI d m)(hm:m<=10000)(sf ss sr:Value)(X:Nat)(r:List V7)(n0 n1 H Z n4:Int)(h5:r.length=5)(hz:∀x∈r,x.size<=100000)(hn:r.all nC=true)(he:r.map nV=[n0,n1,H,Z,n4])(w:V6)(hg:GW K a w)(F:w.heap[X]?=some (.cells ((Wu::r).map Value.string).toArray 9 (0,0)))(h:PD false K D g d sf ss sr w):
 Va 11 #[Ve D 0,Vf X 0 6 6] w (RnP K D g (Ws d (n0,n1,H,Z,n4)) w):=by
 have I:=Ud F;have hi:=Jkd (pX X 5) 5 5 _ r h5 (by decide) (by decide) hz hn he w (by have k:=Uc F;rwa[h5] at k);have hq:∀u:V6,(Instr.makeMap 61 none).run prog u=.ok (.map (some u.heap.size)) (u.alloc (.map #[] 0)):=fun u=>rfl;have W:=Za h;have HG:=Za hg;have Hu:=Za I;have Hv:=Za hd;have Hw:=Za hm;clear F h hg hd hm h5 hz hn he
 go_enter func11,ntmps11
 go_upto_region 6 with(first
  |(refine Ub X 5 (.tmp 18) rfl rfl ?_)
  |(go_at_call 19;refine hi.mono ?_;rintro e v1 ⟨q,cc,rfl,h9,R⟩;have G:=Za h9;have J:=Za R;clear h9 R)
  |(refine Wj rfl underlying61 underlying9 rfl ?_))
 have hj:=World.alloc_heap_new v1 (.map Zp 6);have hc:=Zb v1 (.map Zp 6);have hl:=Up Wu v1.heap.size _ hj;have HL:Hd ((Instr.lookup 61 (.map (some v1.heap.size)) (.string Wu) true).run prog (v1.alloc (.map Zp 6))=.ok (.tuple #[Vi 5,.bool true]) (v1.alloc (.map Zp 6))):=Za hl;clear hl hj;replace G:Hd (N9 (v1.alloc (.map Zp 6)) q _):=Za (G.o.lq hc);replace J:=Za (Zc J.o hc);clear hc I hi hq
 change Code.wp _ _ _ _ (v1.alloc (.map Zp 6))
 generalize ho:v1.alloc (.map Zp 6)=v2;have hp:v1.alloc (.map Zp 6)=v2:=ho;rw[hp] at J HL G;clear ho hp;generalize v1.heap.size=M at HL|-;have I:=cell_later J.o Hu.o;replace W:=Za (W.o.lq J.o);have hl:=HL.o;clear HL
 go_upto_region 11 with fail;have I:=G.o 0 n0 rfl;have x1:=G.o 1 n1 rfl;have x2:=G.o 2 H rfl;have x3:=G.o 3 Z rfl;have x4:=G.o 4 n4 rfl;clear G hl;refine Cs [59,60,61,62,63,64,65,66,67,68,69,70,71,72,73,74,11] ?_;refine Cp 0 59 [] ?_;refine Cp 1 60 [0] ?_;refine Cq (V5 I) 2 61 [1] ?_;refine Cp 3 62 [] ?_;refine Cp 4 63 [3] ?_;refine Cq (V5 x1) 5 64 [4] ?_;refine Cp 6 65 [] ?_;refine Cp 7 66 [6] ?_;refine Cq (V5 x2) 8 67 [7] ?_;refine Cp 9 68 [] ?_;refine Cp 10 69 [9] ?_;refine Cq (V5 x3) 11 70 [10] ?_;refine Cp 12 71 [] ?_;refine Cp 13 72 [12] ?_;refine Cq (V5 x4) 14 73 [13] ?_;refine Cp 15 74 [2,5,8,11,14] ?_;refine Ca (z:=[Vi 0,Vi 0,Vi 0,Vi 0,Vi 0]) (t:=64) 16 11 ?_;refine Cn 1 18 [17] (fun y N Y P=>?_);obtain⟨U,e,hA,ha⟩:=P.1;(try simp only[e]);have Hk:Hd (Blk 64 N U [Vi 0,Vi 0,Vi 0,Vi 0,Vi 0]):=Za hA;have Hx:=Za ha;have A:=Za Y;clear P e hA ha Y I x1 x2 x3 x4;refine Ra 17 (fun K hK=>?_);rw[if_pos (by rfl)];refine Z2 64 (.tmp 11) (.tmp 74) rfl U 0 (ftL (n0,n1,H,Z,n4)).toArray rfl rfl (Hk.o.there (o:=0) (n:=5) (by decide)) W7 (Zm _ rfl) rfl ?_;have Hi:=Za (Zo (ftL (n0,n1,H,Z,n4)) 0 N A.o Hx.o);have Hj:Hd (Blk 64 (N.setCells U 0 (ftL (n0,n1,H,Z,n4))) U (ftL (n0,n1,H,Z,n4))):=Za (Blk.setCells (ftL (n0,n1,H,Z,n4)) 0 N _ Hk.o);refine hK.out _ _ Hi.o (fun _=>?_);clear hK K Hk A;refine Dn ?_;go_simp;generalize N.setCells U 0 _=v3 at *;refine Ek ?_;have L:=Za (Zc J.o Hi.o);have C:=Za (W.o.lq Hi.o);have Hn:=Za (Xz C.o.bk 0 32 (LC _ _ _ _ (X4 _)));have B:=Za Hj.o.range;have Ho:=Za (EG (UC d.a g) (n0,n1,H,Z,n4));clear Hi W J
 go_upto_region 12 with fail;refine Cs [75,76,77,78,79,80,12] ?_;refine Cp 0 75 [] ?_;refine Cp 1 76 [0] ?_;refine Cp 2 77 [1] ?_;refine Cl (x:=.tmp 77) 3 78 [2] (fun y w hF u hh=>⟨Zf Hn.o hh,hF.1⟩) underlying41 Zr ?_;refine Cl (x:=.tmp 11) 4 79 [] (fun y w _ u hh=>⟨Zf B.o hh,rfl⟩) underlying64 W7 ?_;refine Cc 5 80 [3,4] (fun y w h _=>Ho.o _) ?_;refine Cp 6 12 [5] ?_;refine Ce (fun y O Y P=>?_);have A:=Za Y;clear Y P;go_simp;have Y:=A.o;clear A;generalize O=v4 at Y|-;refine Ek ?_;replace L:=Za (Zc L.o Y);replace C:=Za (C.o.lq Y);replace Hj:=Za (Hj.o.lq Y);clear Y Hn B Ho;rw[Job _ g g0]
 by_cases hE:ftE (UC d.a g0) (n0,n1,H,Z,n4)=0
 case neg=>
  have HE:=Za (Je5 hE);have Hl:=Za (Uf (ftE (UC d.a g0) (n0,n1,H,Z,n4)) (ZK _ _).ok v4 (HG.o.lq L.o));generalize ftE (UC d.a g0) (n0,n1,H,Z,n4)=E at*
  have hr:(E==0)=false:=by simpa using hE
  go_wp2_with (go_at_call 21;refine Hl.o.mono ?_;rintro e v5 ⟨rfl,R⟩);go_ret;exact RnP.of HE.o (.of (Zc L.o R)) (C.o.lq R) rfl
 case pos=>
  have HE:=Za (ZP hE);rw[hE]
  go_upto_region 14 with fail;have c0:=(C.o.bk.cell (j:=32) rfl).1;have B:=Za Hj.o.range;refine Ct [83,84,85,86,87,88,89,90] ?_;refine Cp 0 83 [] ?_;refine Cp 1 84 [] ?_;refine Cp 2 85 [1] ?_;refine Cp 3 86 [2] ?_;refine Cp 4 87 [3] ?_;refine Cy (V5 c0) 5 88 [4] ?_;refine Cr (x:=.tmp 11) 6 89 [] (fun y w h _=>⟨Zf B.o h,rfl⟩) underlying64 W7 ?_;refine Cbs (z:=ftL (n0,n1,H,Z,n4)) (t:=64) (n:=1) 7 90 [6] ?_;refine Cn 5 13 [8,9,10,11,12] (fun y N Y P=>?_);obtain⟨X2,e,F,ha⟩:=P.1;(try simp only[e]);have Hp:Hd (Blk 64 N X2 (ftL (n0,n1,H,Z,n4))):=Za F;have Q:=Za (C.o.lq Y);have Hq:=Za (Zc L.o Y);clear P e F ha Y c0 B C L;refine Ra 8 (fun K9 hK=>?_);rw[if_pos (by rfl)];refine ZD (rs':=[(n0,n1,H,Z,n4)]) (.tmp 88) (.tmp 90) underlying43 VG rfl rfl Q.o.ft Q.o.lt Hp.o.range rfl (by decide) KZ VH (by have:=Hv.o.ft;have:=Hw.o;omega) ?_;intro s' O hR hG;obtain⟨ps',cs',rfl⟩:=hR.slice;rw[show(d.ft++[(n0,n1,H,Z,n4)]).length=d.ft.length+1 by simp] at hR|-;have HR:=Za hR;have Hr:=Za ((Dt.of Hq.o).row Q.o.ft hG);have T:=Za (Q.o.bk.kept Q.o.ft hG (by decide));have Hs:=Za (Q.o.st.kept Q.o.ft hG);have Ht:=Za (Q.o.rp.kept Q.o.ft hG);have Hm:=Za (Q.o.ft.below Q.o.lt hG);clear hR hG Hp;refine hK.out _ _ trivial (fun _=>?_);clear hK K9;(try simp only[Act.put]);refine Tq 9 trivial ?_;simp only[Act.put,Ly];refine Tq 10 trivial ?_;simp only[Act.put,Ly];refine Tq 11 trivial ?_;simp only[Act.put,Ly];refine Ra 12 (fun K9 hK=>?_);obtain⟨e,e1⟩:=T.o.cell (j:=32) rfl;go_simp;refine hK.out _ _ trivial (fun _=>?_);clear hK K9;refine Dn ?_
  have HA:Hd (Dt K w (O.setCell (Ad D 32) (.slice ps' (d.ft.length+1) cs'))/\PD false K D g ⟨d.a,d.ft++[(n0,n1,H,Z,n4)],d.st,d.rp⟩ (.slice ps' (d.ft.length+1) cs') ss sr (O.setCell (Ad D 32) (.slice ps' (d.ft.length+1) cs'))):=Za (by
   have hk:=Q.o.kd
   exact⟨Hr.o.set (j:=32) (x:=.slice ps' (d.ft.length+1) cs') T.o hk,Q.o.upd (d':=⟨d.a,d.ft++[(n0,n1,H,Z,n4)],d.st,d.rp⟩) rfl (T.o.set 32 _) (Wi Hm.o ((Dt.refl K O).set (j:=32) T.o hk |>.below (Nat.le_trans Q.o.lt Hm.o.size))) (HR.o.set T.o (by decide)) (Hs.o.set T.o (by decide)) (Ht.o.set T.o (by decide))⟩)
  clear T Hs Ht Hm HR Hr e e1 Q Hq;generalize O.setCell _ _=v5 at *;have Hl:=Za (Uf 0 ⟨by decide,by decide⟩ v5 (HG.o.dt HA.o.1));go_simp;refine Ek ?_
  go_wp2_with (go_at_call 21;refine Hl.o.mono ?_;rintro e v6 ⟨rfl,R⟩);go_ret;exact RnP.of HE.o (HA.o.1.lq R) (HA.o.2.lq R) rfl
def aU(_ k:Nat):Int:=[-4000,4000,5,20,3,100,30,5,20,3,3,60,0,0,2].getD k 0
def d0:Dk:=⟨aU,[],[],[]⟩
def gU(h y j m:Nat):Nat->Nat:=fun i=>[h,y,j,m].getD i 0
theorem di0:DI d0 0:=⟨fun i k=>by
 show -10000000000<=aU i k/\aU i k<=10000000000
 unfold aU
 rw[List.getD_eq_getElem?_getD]
 cases h:([-4000,4000,5,20,3,100,30,5,20,3,3,60,0,0,2]:List Int)[k]? with
 |none=>simp
 |some x=>
  have:=List.mem_of_getElem? h;simp only[List.mem_cons,List.not_mem_nil,or_false] at this;simp only[Option.getD_some]
  omega,Nat.zero_le _,Nat.zero_le _,fun r y=>(by cases y),Nat.zero_le _⟩
theorem Jkn(h:Lst u (some (Ad G0 0)) [0,300]/\Lst u (some (Ad G1 0)) [40,20]/\Lst u (some (Ad G2 0)) [0,300]/\Lst u (some (Ad G3 0)) [60,30]):CrL u (UC aU (gU G0 G1 G2 G3)):=fun i hi=>by
 rcases Qtw i with rfl|rfl
 . exact⟨by show 2<=_;omega,by show 2<=_;omega,Nat.le_refl _,h.1,h.2.1⟩
 . exact⟨by show 2<=_;omega,by show 2<=_;omega,Nat.le_refl _,h.2.2.1,h.2.2.2⟩
theorem Jsh(h:Lst u (some (Ad G0 0)) [0,300]/\Lst u (some (Ad G1 0)) [40,20]/\Lst u (some (Ad G2 0)) [0,300]/\Lst u (some (Ad G3 0)) [60,30]):∀i,i<4->gU G0 G1 G2 G3 i<u.heap.size:=fun i hi=>by
 rcases(show i=0\/i=1\/i=2\/i=3 by omega) with rfl|rfl|rfl|rfl
 . exact FP h.1 (by simp) _ _ rfl
 . exact FP h.2.1 (by simp) _ _ rfl
 . exact FP h.2.2.1 (by simp) _ _ rfl
 . exact FP h.2.2.2 (by simp) _ _ rfl
abbrev AY:Value:=.slice none 0 0
theorem PD.usual(b:Bool)(h:Lst u (some (Ad G0 0)) [0,300]/\Lst u (some (Ad G1 0)) [40,20]/\Lst u (some (Ad G2 0)) [0,300]/\Lst u (some (Ad G3 0)) [60,30]):
 PD b u.heap.size u.heap.size (gU G0 G1 G2 G3) d0 AY AY AY (u.alloc (.cells (dkL b (crL (UC aU (gU G0 G1 G2 G3))) AY AY AY).toArray (tD b))):=
 ⟨Nat.le_refl _,Jsh h,(Jkn h).lq Vc,Blk.new u _ _,Row.nil _ _ _ _ _,Row.nil _ _ _ _ _,Row.nil _ _ _ _ _⟩
theorem Jnt(C:CR)(w:V6):(Instr.build 82 #[(1,.agg (crL C).toArray)]).run prog w=.ok (.agg (dkL true (crL C) AY AY AY).toArray) w:=by kernel_rfl
theorem LD{a:Act}(C:CR)(x:Operand)(ha:op.guard=none)(ho:op.op=.build 82 #[(1,x)])(hx:a.eval x=.agg (crL C).toArray)(h:wpList prog ops Q rest (a.put op.dst (.agg (dkL true (crL C) AY AY AY).toArray)) w):wpList prog ops Q (op::rest) a w:=by
 refine wpList_plain ha fun _ hK=>?_
 unfold Oper.wp execOp
 simp only[ho,List.map_toArray,List.map_cons,List.map_nil,hx,Sem.run_bind,Jnt,Result.andThen_ok];exact hK _ _ h
def NdP(b:Bool)(w:V6)(e:Ending)(w':V6):Prop:=(∃D g,e=.returned (Ve D 0)/\w.heap.size<=D/\PD b D D g d0 AY AY AY w')/\Bw w w'
theorem VQ(w:V6):Va 12 #[] w (NdP true w):=by
 go_enter func12,ntmps12
 go_wp2_with (first
  |(go_at_call 29;refine(ZY _).mono ?_;rintro e v1 ⟨h,y,j,m,rfl,hl,H⟩;have Y:=Za hl;have Z:=Za H;clear hl H)
  |(refine LD (UC aU (gU h y j m)) (.tmp 1) rfl rfl rfl ?_))
 go_ret;exact⟨⟨_,gU h y j m,rfl,Z.o.size,PD.usual true Y.o⟩,Zc Z.o Vc⟩
theorem GW.up{K':Nat}(h:GW K a w)(hK:K<=K')(hw:K'<=w.heap.size):GW K' a w:=⟨Nat.le_trans h.kg hK,hw,h.eb,h.gv,h.ml,fun w' y=>h.tab w' (DF y hK)⟩
theorem Dt.own{α:Type}{f:α->List Value}{z:V6}{rs:List α}(h:Dt K u v)(H:Row f m t u.heap.size v s rs)(y:v.grownBy z s.ownBlock):Dt K u z:=
 ⟨y.os.trans h.os,y.tape.trans h.tape,y.output.trans h.output,Nat.le_trans h.size y.size,fun b o e q=>by
  have j:=h.blk b o e q;refine(y.block b (Array.getElem?_eq_some_iff.1 j).1 (fun w=>?_)).trans j
  rcases H.2 with⟨rfl,_⟩|⟨g,cap,ha,rfl,hK,Z,_⟩
  . cases w
  . cases w
    exact absurd (show g<u.heap.size from(Array.getElem?_eq_some_iff.1 e).1) (Nat.not_lt.2 hK)⟩
theorem VR{L:List V7}(h:u.heap[X]?=some (.cells (L.map Value.string).toArray 9 (0,0)))(hd:Dt K u v){x:V7}(hx:L[k]?=some x):v.cell? (Ad X k)=some (.string x):=by
 simp only[World.cell?,hd.cells h (by decide)];simp only[Option.isSome_none,Bool.false_eq_true,if_false];rw[List.getElem?_toArray,List.getElem?_map,hx];rfl
def PlP(w:V6)(t:V7)(e:Ending)(w':V6):Prop:=(∃s,e=.returned (.tuple #[s,.nilIface])/\RL w.heap.size w' s (Yo d0 (spl (AR t) nlS)))/\Bw w w'
theorem Jko(t:V7)(X:t.size<=4000)(w:V6)(Q:GW K a w):
 Va 6 #[.string t] w (PlP w t):=by
 have O:=U6 (AR t) nlS;have G:Hd ((spl (AR t) nlS).length<=4001):=Za (QD (by decide) (U7 X));have Hg:Hd (∀x∈spl (AR t) nlS,x.size<=100000):=Za (Q9 (Nat.le_trans (U7 X) (by omega)));have R:=Za (fun u (h:Bw w u)=>Jdh t (by omega) u (Q.lq h) (Nat.le_trans (U7 X) (by omega)));rw[<-O] at R;have U:=Za Q;have Hh:Hd (∀e w',(∃s,e=.returned (.tuple #[s,.nilIface])/\RL w.heap.size w' s (Yo d0 (spl (AR t) nlS)))->Bw w w'->PlP w t e w'):=Za (fun e w' h1 h2=>⟨h1,h2⟩)
 have h4:¬(4000:Int)<(t.size:Int):=by omega
 generalize spl (AR t) nlS=L at *;clear O Q X
 go_enter func6,ntmps6
 go_upto_region 6 with(first
  |(go_at_call 12;refine(VQ w).mono ?_;rintro e v1 ⟨⟨D,g,rfl,B,y⟩,W⟩;have j:=Za y;have m:=Za W;have HD:=Za B;clear y W B)
  |(go_at_call 13;refine(OB v1).mono ?_;rintro e v2 ⟨rfl,rfl⟩)
  |(go_at_call 14;refine(R.o _ (Zc m.o Vc)).mono ?_;rintro e J ⟨rfl,rfl⟩))
 have hc:=Zb v1 (.map J9 7);have ha:=Zb (v1.alloc (.map J9 7)) (.cells (L.map Value.string).toArray 9);have N:=World.alloc_heap_new v1 (.map J9 7);have HM:=Za ((ha.block _ (Array.getElem?_eq_some_iff.1 N).1).trans N);have P:=Za (World.alloc_heap_new (v1.alloc (.map J9 7)) (.cells (L.map Value.string).toArray 9));replace m:=Za (Zc (Zc m.o hc) ha);replace j:=Za ((j.o.lq hc).lq ha)
 have hh:(v1.alloc (.map J9 7)).heap.size=v1.heap.size+1:=by simp
 rw[hh] at P;clear N hc ha hh R;generalize hM:v1.heap.size=M at HM P|-;clear hM;generalize (v1.alloc (.map J9 7)).alloc (.cells (L.map Value.string).toArray 9)=J at *;clear v1;have Hi:=Za ((U.o.lq m.o).up (Nat.le_trans U.o.kw HD.o) j.o.lt);clear h4
 go_loopw [6,18] (fun l ix wr=>∃k:Nat,k<=L.length/\ix=Vi k/\RL J.heap.size wr l (Yo d0 (L.take k))/\(∃C E F,PD true D D g (desks d0 (L.take k)) C E F wr)/\Dt D J wr) (fun _ ix _=>L.length-(intOf ix).toNat)
 case atStart=>exact⟨0,by omega,rfl,Row.nil _ _ _ _ _,⟨_,_,_,j.o⟩,Dt.refl _ _⟩
 case round=>
  obtain⟨k,hk,rfl,H,⟨C,E,F,y⟩,hd⟩:=hrel
  by_cases hlt:k<L.length
  . have hx:L[k]?=some L[k]:=List.getElem?_eq_getElem hlt;obtain⟨x,I⟩:∃x,L[k]=x:=⟨_,rfl⟩;have hi:=Hg.o x (I▸List.getElem_mem hlt);rw[I] at hx;have hn:=VR P.o hd hx;have hj:DI (desks d0 (L.take k)) 10000:=(DI.desks (ls:=L.take k) di0).le (by rw[List.length_take];have:=G.o;omega);have Hj:=Za (ZO D D g (desks d0 (L.take k)) 10000 hj (Nat.le_refl _) C E F M x hi wr (Hi.o.dt hd) (Jnk HM.o hd) y);have Z:=Za H;have Hf:=Za hd
    have k1:(k:Int)<(L.length:Int):=by omega
    have hw:IntKind.i64.wrap ((k:Int)+1)=((k+1:Nat):Int):=by rw[IntKind.wrap_i64]<;>(have:=G.o;omega)
    have Hk:Hd (Yo d0 (L.take (k+1))=Yo d0 (L.take k)++[(ans (desks d0 (L.take k)) x).2]):=Za (by rw[Wh hx,D6]);have Hl:Hd (desks d0 (L.take (k+1))=(ans (desks d0 (L.take k)) x).1):=Za (by rw[Wh hx,D5]);have Hm:Hd ((Yo d0 (L.take k)).length<=5000):=Za (by rw[Mb,List.length_take];have:=G.o;omega);clear H y hd I hx hi hj;generalize ans (desks d0 (L.take k)) x=A at *;generalize Yo d0 (L.take k)=T at*
    go_wp2_with (first
     |(go_at_call 15;refine Hj.o.mono ?_;rintro e v4 ⟨hl,hm,rfl⟩;have Y:=Za hl;have Hn:=Za hm;clear hl hm)
     |(at_builtin;refine U9 (rs':=[A.2]) (.tmp 22) (.tmp 27) O9 VZ rfl rfl ((Z.o.dt Y.o).lq Vc) (Nat.le_trans (Hf.o.trans Y.o).size Vc.size) (CA _ _ _) rfl (fun _=>rfl) Jon (by have:=Hm.o;show _+1<=_;omega) ?_;intro s' u' hR hG))
    refine⟨⟨k+1,by omega,by go_num,?_,?_,?_⟩,by simp[intOf];omega⟩
    . rw[Hk.o];exact hR
    . obtain⟨f1,f2,f3,h⟩:=Hn.o;rw[Hl.o];exact⟨f1,f2,f3,(h.lq Vc).txt ((Z.o.dt Y.o).lq Vc) j.o.lt hG⟩
    . exact((Hf.o.trans Y.o).lq Vc).own ((Z.o.dt Y.o).lq Vc) hG
  . obtain rfl:k=L.length:=by omega
    rw[List.take_length] at H;have Z:=Za H;have Ho:=Za (Wi m.o (DF (hd.below j.o.lt) HD.o));clear H y hd hk hlt;go_wp2_with fail;go_ret2;exact Hh.o _ _ ⟨_,rfl,Z.o.weak m.o.size⟩ Ho.o
end Go.Proofs.YtnepnnkdgejheaaGreatDoor
