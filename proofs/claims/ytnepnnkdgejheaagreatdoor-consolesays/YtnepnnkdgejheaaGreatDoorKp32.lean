
import Derived.Test.YtnepnnkdgejheaaGreatDoorKp17
import Derived.Test.YtnepnnkdgejheaaGreatDoorKp31
set_option maxRecDepth 100000
set_option maxHeartbeats 20000000
namespace Go.Proofs.YtnepnnkdgejheaaGreatDoor
open Go.RowKit Plain Tryz
variable {B K V cap g i k:Nat}{C:CR}{L:List Sv}{R T a b c m n x:Int}{S S':FS}{l:List Rd}{s:Nat->Int}{sv sv':Nat->List Sv}{t:Nat->Bool}{u u' w wz:V6}
theorem FR.up{a:V8}{G:Nat->Nat}(h:FR K wz u B S C a cap l sv G)(y:FR K u u' B S' C a cap l sv' G):FR K wz u' B S' C a cap l sv' G:=
 ⟨y.blk,y.rds,h.low.trans y.low,y.base,y.far,y.servo,y.two,y.many,fun b h1 h2 h3 h4=>(y.oth b (Nat.lt_of_lt_of_le h1 h.low.size) h2 h3 h4).trans (h.oth b h1 h2 h3 h4)⟩
theorem FR.beside{a:V8}{G:Nat->Nat}(y:FR K u u' B S' C a cap l sv' G){t:TypeId}{cs:List Value}(h:Blk t u V cs)(h2:V≠B)(h3:V≠G 0)(h4:V≠G 1):Blk t u' V cs:=(y.oth V h.lt h2 h3 h4).trans h
theorem KJ(g0 cap n:Nat)(f:Nat->Nat)(x:Value)(I:Nat->World->Prop)(hn:n<=1000)(y:∀k u h,I k u->Bw u h->I k h)(ha:∀k u,k<n->I k u->Kc u g0 k (.func (.func (f k)) #[x] #[]))(hc:∀k,k<n->∀args w,(callFunc (f k) args).run prog w=.ok (.enter (f k) args) w)(j:∀k,k<n->∀u,I k u->Va (f k) #[x] u fun r h=>r=.returned .nilIface/\I (k+1) h)(w:V6)(h0:I 0 w):
 Va 103 #[Vf g0 0 n cap] w fun r w'=>r=.returned .nilIface/\I n w':=by
 have e:=Za y;have H:=Za ha;have Z:=Za j;have Y:=Za hc;have m:=Za h0;clear y ha j hc h0
 go_enter func103,ntmps103
 go_wp2
 go_loopw [8] (fun i wr=>∃k:Nat,k<=n/\i=Vi k/\Hd (I k wr)) (fun i _=>n-(intOf i).toNat)
 case atStart=>exact⟨0,Nat.zero_le _,rfl,m⟩
 case round=>
  obtain⟨k,hk,rfl,hi⟩:=hrel;clear m
  by_cases hlt:k<n
  . have ha:=H.o k wr hlt hi.o;have G:=Y.o k hlt;have X:=Z.o k hlt _ (e.o k wr _ hi.o (Zb wr (.cells #[Vi 0] 22)));generalize f k=gk at*
    have R:(0:Int)<=(k:Int):=by omega
    have T:(k:Int)<(n:Int):=by omega
    clear hi
    go_wp2_with (first
     |(go_at_fn gk;refine X.mono ?_;rintro r J ⟨rfl,hd⟩;have Q:=Za hd;clear hd)
     |(go_at_call 65;refine(Jfw _ _).mono ?_;rintro r K ⟨rfl,rfl⟩))
    go_roundw
    case rel=>exact⟨k+1,by omega,by go_num,Q⟩
    case measure=>simp[intOf];omega
  . obtain rfl:k=n:=by omega
    go_wp2_with fail;go_ret;exact⟨rfl,hi.o⟩
def sS1(C:CR)(S:FS)(l:List Rd):FS:={ S with bk:=upd (upd (upd S.bk 2 (vbk (S.bk 2) C.c0 C.c1 (tS l 8) (sS l 8))) 0 (vbk (S.bk 0) (C.a 0 8) (C.a 0 9) (tS l 1) (sS l 1))) 1 (vbk (S.bk 1) (C.a 1 8) (C.a 1 9) (tS l 2) (sS l 2)) }
def vS1(C:CR)(l:List Rd)(sv:Nat->List Sv):Nat->List Sv:=wsx C l sv 2
def sS2(C:CR)(S:FS)(l:List Rd)(sv:Nat->List Sv):FS:={ sS1 C S l with n:=lwM C (sS1 C S l) l (vS1 C l sv) }
def sS3(C:CR)(S:FS)(l:List Rd)(sv:Nat->List Sv):FS:={ sS2 C S l sv with hd:=upd (upd (sS2 C S l sv).hd 0 (mvH C (sS2 C S l sv) l (vS1 C l sv) 0)) 1 (mvH C (sS2 C S l sv) l (vS1 C l sv) 1) }
def vS3(C:CR)(S:FS)(l:List Rd)(sv:Nat->List Sv):Nat->List Sv:=upd (upd (vS1 C l sv) 0 (mvS C (sS2 C S l sv) l (vS1 C l sv) 0)) 1 (mvS C (sS2 C S l sv) l (vS1 C l sv) 1)
structure Jpg (K:Nat) (wz:V6) (C:CR) (S:FS) (l:List Rd) (sv:Nat->List Sv):Prop where
 v2:Z9 (S.bk 2).b (S.bk 2).l C.c0 C.c1 (tS l 8) (sS l 8)=0
 v0:Z9 (S.bk 0).b (S.bk 0).l (C.a 0 8) (C.a 0 9) (tS l 1) (sS l 1)=0
 v1:Z9 (S.bk 1).b (S.bk 1).l (C.a 1 8) (C.a 1 9) (tS l 2) (sS l 2)=0
 l9:∀i,i<2->(sv i).length<=9
 sW:∀i,i<2->∀k,k<(sv i).length->svE (C.a i 5) (C.a i 6) (C.a i 7) (C.a i 10) (A0 (sv i) k).1 (A0 (sv i) k).2.1 (A0 (sv i) k).2.2=0
 m9:∀i,i<2->(vS1 C l sv i).length<=9
 h0:heE (heM C (sS1 C S l) (vS1 C l sv) 0).1 (heM C (sS1 C S l) (vS1 C l sv) 0).2.1 (heM C (sS1 C S l) (vS1 C l sv) 0).2.2=0
 h1:heE (heM C (sS1 C S l) (vS1 C l sv) 1).1 (heM C (sS1 C S l) (vS1 C l sv) 1).2.1 (heM C (sS1 C S l) (vS1 C l sv) 1).2.2=0
 nB:A1 S.n 0 3=true
 m0:AP K wz C (sS2 C S l sv) l (vS1 C l sv) 0
 m1:AP K wz C (sS2 C S l sv) l (vS1 C l sv) 1
 t9:∀i,i<2->(vS3 C S l sv i).length<=9
 t:∀k,k<(rdA (vS3 C S l sv) (sS3 C S l sv).n).length->Yf (rat (rdA (vS3 C S l sv) (sS3 C S l sv).n) k)=true
theorem AP.rebase(h:AP K wz C S l sv i)(y:Below K wz u):AP K u C S l sv i:=
 ⟨h.n1,h.n4,h.m0,h.m1,h.mc,fun v j=>h.line v (y.trans j),h.ok,h.h4,h.h5,h.h3,h.h7,h.h6,h.ho,h.gm⟩
def kS(C:CR)(S:FS)(l:List Rd)(sv:Nat->List Sv)(k:Nat):FS:=if k=0 then S else if k=1 then sS1 C S l else if k=2 then sS1 C S l else if k=3 then sS2 C S l sv else sS3 C S l sv
def kV(C:CR)(S:FS)(l:List Rd)(sv:Nat->List Sv)(k:Nat):Nat->List Sv:=if k=0 then sv else if k=1 then sv else if k=2 then vS1 C l sv else if k=3 then vS1 C l sv else vS3 C S l sv
def fM(k:Nat):Nat:=[204,205,206,207].getD k 0
def fmL(B:Nat):List Value:=[.func (.func 204) #[Ve B 0] #[],.func (.func 205) #[Ve B 0] #[],.func (.func 206) #[Ve B 0] #[],.func (.func 207) #[Ve B 0] #[]]
theorem Jrp(k:Nat)(hk:k<4)(args:Array Value)(w:V6):(callFunc (fM k) args).run prog w=.ok (.enter (fM k) args) w:=by
 rcases(show k=0\/k=1\/k=2\/k=3 by omega) with rfl|rfl|rfl|rfl<;>kernel_rfl
theorem YG{g0 cap4:Nat}{a:V8}{G:Nat->Nat}(H:FR K wz w B S C a cap l sv G)(ho:Jpg K wz C S l sv)(Z:Blk 186 w g0 (fmL B))(Y:B<g0)(h0:G 0<g0)(h1:G 1<g0):
 Va 103 #[Vf g0 0 4 cap4] w fun r w'=>r=.returned .nilIface/\FR K wz w' B (sS3 C S l sv) C a cap l (vS3 C S l sv) G:=by
 refine(KJ g0 cap4 4 fM (Ve B 0) (fun k u=>FR K wz u B (kS C S l sv k) C a cap l (kV C S l sv k) G/\Blk 186 u g0 (fmL B)) (by decide) (fun k u y h e=>⟨h.1.lq e,h.2.lq e⟩) ?_ Jrp ?_ w ⟨H,Z⟩).mono ?_
 . intro k u hk h
   rcases(show k=0\/k=1\/k=2\/k=3 by omega) with rfl|rfl|rfl|rfl
   . exact(h.2.cell (j:=0) rfl).1
   . exact(h.2.cell (j:=1) rfl).1
   . exact(h.2.cell (j:=2) rfl).1
   . exact(h.2.cell (j:=3) rfl).1
 . intro k hk u h
   rcases(show k=0\/k=1\/k=2\/k=3 by omega) with rfl|rfl|rfl|rfl
   . have m:FR K u u B S C a cap l sv G:=FR.rebase h.1;exact(P4 m ho.v2 ho.v0 ho.v1).mono fun _ y k=>⟨k.1,FR.up h.1 (show FR K u y B (sS1 C S l) C a cap l sv G from k.2),FR.beside k.2 h.2 (by omega) (by omega) (by omega)⟩
   . have m:FR K u u B (sS1 C S l) C a cap l sv G:=FR.rebase h.1;exact(K6 m ho.l9 ho.sW).mono fun _ y k=>⟨k.1,FR.up h.1 (show FR K u y B (sS1 C S l) C a cap l (vS1 C l sv) G from k.2),FR.beside k.2 h.2 (by omega) (by omega) (by omega)⟩
   . have m:FR K u u B (sS1 C S l) C a cap l (vS1 C l sv) G:=FR.rebase h.1;exact(P8 m ho.m9 ho.h0 ho.h1 ho.nB).mono fun _ y k=>⟨k.1,FR.up h.1 (show FR K u y B (sS2 C S l sv) C a cap l (vS1 C l sv) G from k.2),FR.beside k.2 h.2 (by omega) (by omega) (by omega)⟩
   . have m:FR K u u B (sS2 C S l sv) C a cap l (vS1 C l sv) G:=FR.rebase h.1;exact(UF m (ho.m0.rebase h.1.low) (ho.m1.rebase h.1.low)).mono fun _ y k=>⟨k.1,FR.up h.1 (show FR K u y B (sS3 C S l sv) C a cap l (vS3 C S l sv) G from k.2),FR.beside k.2 h.2 (by omega) (by omega) (by omega)⟩
 . rintro r w' ⟨rfl,h⟩;exact⟨rfl,h.1⟩
theorem Jl9{zs:V9}(j:g≠V)(y:List Value)(o:Nat)(h:BP u (some (Ad g 0)) zs):BP (u.setCells V o y) (some (Ad g 0)) zs:=by
 rcases h with h|⟨b,e,hc⟩
 . exact .inl h
 . simp only[Option.some.injEq,Addr.mk.injEq] at e;obtain⟨rfl,_⟩:=e;exact .inr ⟨g,rfl,fun k hk=>U0 j y o u (hc k hk)⟩
theorem Jh3(S:FS)(C:CR)(x:Value):((frL S C x).drop 0).take 30=stL S:=rfl
theorem Jh4(tmps:Array Value)(U:V6)(Y:Nat)(h:List Value)(x y:Value)(h6:tmps.getD 6 undef=Ve Y 0)(h7:tmps.getD 7 undef=x)(j:tmps.getD 8 undef=y)(m:U.rangeAt Y 0 h)(hn:h.length=30):
 (results Tryz.f163 tmps).run prog U=.ok (.tuple #[.agg h.toArray,x,y]) U:=by
 have h3:tmps[6]?.getD undef=Ve Y 0:=by simpa using h6
 have h4:tmps[7]?.getD undef=x:=by simpa using h7
 have h5:tmps[8]?.getD undef=y:=by simpa using j
 simp[results,results163,h3,h4,h5,asAddr,run_loadVar_mid U Y 0 110 h _ m underlying110 rfl (by rw[Yj,hn])]
theorem UG(C:CR)(S:FS)(sv:Nat->List Sv)(ws:V9)(M:V8)(D:Nat)(w:V6)(E:GV w)(hl:CrL w C)(F:SvL w S sv)(hw:Wds w M ws)(hm:ws.length<=64)(h0:stE C S sv=0)(ha:∀K wz S',(S'.bk=S.bk/\S'.hd=S.hd/\S'.n=S.n)->(∀u,Below K wz u->CrL u C)->Jpg K wz C S' (gat A2 ws) sv):
 Va 163 #[.agg (crL C).toArray,.agg (stL S).toArray,.slice M ws.length D] w fun e w'=>∃S' g c,e=.returned (.tuple #[.agg (stL (sS3 C S' (gat A2 ws) sv)).toArray,Vf g 0 (rdA (vS3 C S' (gat A2 ws) sv) (sS3 C S' (gat A2 ws) sv).n).length c,.nilIface])/\(S'.bk=S.bk/\S'.hd=S.hd/\S'.n=S.n)/\SvL w' (sS3 C S' (gat A2 ws) sv) (vS3 C S' (gat A2 ws) sv)/\BP w' (some (Ad g 0)) (pkU (rdA (vS3 C S' (gat A2 ws) sv) (sS3 C S' (gat A2 ws) sv).n) (rdA (vS3 C S' (gat A2 ws) sv) (sS3 C S' (gat A2 ws) sv).n).length)/\Bw w w'/\∀i,i<2->∃G,(sS3 C S' (gat A2 ws) sv).sp i=some (Ad G 0)/\w.heap.size<=G:=by
 have hn:(gat A2 ws).length<=1000:=by have:=Nt A2 ws;omega
 have hc:=fun u (h:Bw w u)=>UE C S sv ws M D u (E.lq h) (hl.lq h) (F.lq h) (hw.lq h) hm hn h0;have Z:Hd (Bw w (((w.alloc (.cells (crL C).toArray 41)).alloc (.cells (stL S).toArray 110)).alloc (.cells Qaa 110))):=Za (Zc (Zc (Zb w (.cells (crL C).toArray 41)) (Zb _ (.cells (stL S).toArray 110))) (Zb _ (.cells Qaa 110)));have I:Hd (World.rangeAt (((w.alloc (.cells (crL C).toArray 41)).alloc (.cells (stL S).toArray 110)).alloc (.cells Qaa 110)) w.heap.size 0 (crL C)):=Za ((((Blk.new w 41 (crL C)).lq (Zb _ (.cells (stL S).toArray 110))).lq (Zb _ (.cells Qaa 110))).range)
 have L:Hd (World.rangeAt (((w.alloc (.cells (crL C).toArray 41)).alloc (.cells (stL S).toArray 110)).alloc (.cells Qaa 110)) (w.heap.size+1) 0 (stL S)):=Za (by have:=((Blk.new (w.alloc (.cells (crL C).toArray 41)) 110 (stL S)).lq (Zb _ (.cells Qaa 110))).range;rw[World.size_alloc] at this;exact this);have N:Hd (Blk 110 (((w.alloc (.cells (crL C).toArray 41)).alloc (.cells (stL S).toArray 110)).alloc (.cells Qaa 110)) (w.heap.size+1+1) Qag):=Za (by have:=Blk.new ((w.alloc (.cells (crL C).toArray 41)).alloc (.cells (stL S).toArray 110)) 110 Qag;rw[World.size_alloc,World.size_alloc] at this;exact this);have O:=Za hl;have U:=Za ha;clear E hl F hw h0 ha;generalize hp:gat A2 ws=l at*
 have ho:w.heap.size<=w.heap.size+1+1:=by omega
 go_enter func163,ntmps163
 go_upto_region 1 with fail;generalize (((w.alloc (.cells (crL C).toArray 41)).alloc (.cells (stL S).toArray 110)).alloc (.cells Qaa 110))=v0 at *;generalize w.heap.size+1+1=Y at*
 go_upto_region 4 with(first
  |(refine Lm 41 (.tmp 3) rfl w.heap.size 0 (crL C) I.o underlying41 Zr ?_)
  |(refine Lm 110 (.tmp 4) rfl (w.heap.size+1) 0 (stL S) L.o underlying110 Yj ?_)
  |(go_at_call 203;refine(hc _ Z.o).mono ?_;rintro e v1 ⟨B,S',a,cap,G,rfl,hS',j⟩;have m:=Za j;have A:=Za hS';clear j hS'))
 have X:=Za (U.o v0.heap.size v0 S' A.o (fun u Q=>O.o.lq (Zc Z.o Q)));have W:Hd (Blk 186 (v1.alloc (.cells (fmL B).toArray 186)) v1.heap.size (fmL B)):=Za (Blk.new v1 _ _);have he:=m.o.lt;have hh:=(m.o.servo 0 (by omega)).2.2.1.lt;have hj:=(m.o.servo 1 (by omega)).2.2.1.lt;have hq:=N.o.lt;have Hi:=Za (m.o.lq (Zb v1 (.cells (fmL B).toArray 186)));clear m hc I L U O
 go_upto_region 7 with(go_at_call 103;refine Sb (YG Hi.o X.o W.o he hh hj) fun v3 j=>?_;have R:=Za j;clear j);have hr:=R.o.low.size;clear Hi W he hh hj
 go_upto_region 10 with(go_at_call 208;refine(Jl8 R.o X.o.t9 X.o.t).mono ?_;rintro e H ⟨⟨g,c,rfl,hk,Q⟩,hb⟩;have HU:=Za Q;have Hj:=Za hk;have y:=Za (R.o.lq hb);clear Q hk hb R);have HR:=Za (y.o.blk.sub 0 30);rw[Jh3] at HR;have Hk:Hd (Blk 110 H Y Qag):=Za ((y.o.low.block Y N.o.lt).trans N.o);have HT:=Za (Hk.o.there (o:=0) (n:=30) (by decide));have h9:=X.o.t9;generalize J:sS3 C S' l sv=T at *;generalize P:vS3 C S' l sv=V at*
 go_wp2_with (first
  |(refine Lm 110 (.tmp 49) rfl B 0 (stL T) HR.o underlying110 Yj ?_)
  |(refine Sq 110 _ _ rfl ?_;refine wpList_store_mid rfl 110 (.tmp 6) (.tmp 50) rfl Y 0 (stL T).toArray rfl rfl HT.o Yj (Zm _ rfl) ?_))
 have Hl:Hd ((World.setCells H Y 0 (stL T)).rangeAt Y 0 (stL T)):=Za (World.rangeAt_setCells_same H Y 0 (stL T) HT.o);refine bodyPost_ret (v:=.tuple #[.agg (stL T).toArray,Vf g 0 (rdA V T.n).length c,.nilIface]) (Jh4 _ _ Y (stL T) _ _ rfl rfl rfl Hl.o rfl) rfl ⟨S',g,c,?_,A.o,fun i hi=>?_,?_,?_,fun i hi=>?_⟩
 . rw[J,P]
 . rw[J,P];refine⟨(y.o.servo i hi).2.1,h9 i hi,?_⟩;rw[(y.o.servo i hi).1];exact Ja7 (Blk.farCells (show G i≠Y by have:=(y.o.servo i hi).2.2.2.1;omega) (stL T) 0 H (y.o.servo i hi).2.2.1)
 . rw[J,P];exact Jl9 (by have:=Hj.o;omega) (stL T) 0 HU.o
 . exact Zo (stL T) 0 H (Zc Z.o y.o.low) ho
 . rw[J];exact⟨G i,(y.o.servo i hi).1,Nat.le_trans Z.o.size (y.o.servo i hi).2.2.2.1⟩
theorem PJ:∀{l:List Rd} {r:Rd},fnd a b l=some r->r∈l
 |[],_,h=>by cases h
 |x::t,r,h=>by
  unfold fnd at h
  split at h
  . cases h;simp
  . exact List.mem_cons_of_mem _ (PJ h)
theorem Jh5(x:Int):-262144<=CY x/\CY x<=262143:=by
 unfold CY;split<;>omega
theorem YH(ws:V9)(x y:Int):-262144<=(smp (gat A2 ws) x y).2/\(smp (gat A2 ws) x y).2<=262143:=by
 unfold smp
 cases h:fnd x y (gat A2 ws) with
 |none=>simp
 |some r=>
  obtain⟨z,_,j⟩:=O7 A2 ws r (PJ h)
  have hd:-262144<=r.2.2.2/\r.2.2.2<=262143:=by
   unfold A2 at j
   split at j
   . cases j;exact Jh5 z
   . cases j
  dsimp only
  split
  . exact hd
  . simp
theorem CE(ws:V9)(x:Int):Xi (tS (gat A2 ws) x) (sS (gat A2 ws) x) 3=true:=by
 have h:∀k,Zx (sS (gat A2 ws) x k)=true:=fun k=>by
  unfold sS Zx
  have a:=YH ws x 0;have b:=YH ws x 1;have c:=YH ws x 2;simp only[Bool.and_eq_true,decide_eq_true_eq]
  split
  . omega
  . split<;>omega
 simp[Xi,h]
theorem KK{b:Nat->Int}{l:Int}(h1:Ya m c=0)(h2:Yk b l=0)(h3:Xi t s 3=true):Z9 b l m c t s=0:=by
 unfold Z9;rw[if_pos h1,if_pos h2,if_pos h3]
theorem Jrq{s:Sv}(hs:svB (C.a i 5) (C.a i 10) s.1 s.2.1 s.2.2=true)(j:arB (C.a i 5) (C.a i 6) (C.a i 7) (C.a i 10)=true):svB (C.a i 5) (C.a i 10) (wv C l i k s).1 (wv C l i k s).2.1 (wv C l i k s).2.2=true:=by
 obtain⟨⟨w,H⟩,⟨Z,Y⟩,ho,m⟩:=Y2 hs;have ha:=(Yh j).1
 unfold wv wI wB wO
 dsimp only
 generalize y:CQ (C.a i 7) s.1 (smp l (16+4*(i:Int)+(k:Int)) 3).2 s.2.2 (smp l (16+4*(i:Int)+(k:Int)) 3).1=f
 cases f
 . have hc:s.2.2=false:=by
    unfold CQ at y
    cases h:s.2.2
    . rfl
    . rw[h] at y;simp at y
   have:=m hc;simp only[Bool.false_eq_true,if_false]
   by_cases e:s.2.1+1=C.a i 10
   . rw[if_pos e];exact TG (fun _=>rfl) (fun h=>by simp[e] at h)
   . rw[if_neg e];exact TG (fun h=>by simp[e] at h) (fun _=>by omega)
 . simp only[if_true];exact hs
theorem Jbp(C:CR)(l:List Rd)(i:Nat)(L:List Sv){j:Nat}(h:j<L.length):A0 (wml C l i L L.length) j=wv C l i j (A0 L j):=by
 simp[wml,A0,h]
theorem FM(C:CR)(l:List Rd)(sv:Nat->List Sv)(hi:i<2):vS1 C l sv i=wml C l i (sv i) (sv i).length:=by
 unfold vS1 wsx;rw[if_pos hi]
theorem Wd(C:CR)(l:List Rd)(sv:Nat->List Sv)(hi:i<2):(vS1 C l sv i).length=(sv i).length:=by
 rw[FM C l sv hi,Uk]
theorem Jph(g:Bool)(ha:A1 a 0 3=true)(h:A1 b 0 3=true):A1 (neI a b g) 0 3=true:=by
 unfold neI
 rw[ha,h];simp only[Bool.and_self,if_true]
 cases g
 . simp only[Bool.false_eq_true,if_false]
   unfold mxL
   split<;>assumption
 . exact h
theorem N6(h:clE n=0):A1 n 0 3=true:=by
 unfold clE at h
 split at h
 . assumption
 . cases h
theorem Xe(h:a<=x/\x<=b):A1 x a b=true:=by
 simp only[A1,Bool.and_eq_true,decide_eq_true_eq];omega
section
variable {C : CR} {S S' : FS} {sv : Nat -> List Sv} {ws : List Int}
theorem KL(h:S'.bk=S.bk/\S'.hd=S.hd/\S'.n=S.n):stE C S' sv=stE C S sv:=by
 unfold stE
 have:eSt C S' sv=eSt C S sv:=by funext k;unfold eSt;rw[h.1,h.2.1,h.2.2]
 rw[this]
theorem KM(h:stE C S sv=0)(hi:i<2)(T:FS):heE (heM C T (vS1 C (gat A2 ws) sv) i).1 (heM C T (vS1 C (gat A2 ws) sv) i).2.1 (heM C T (vS1 C (gat A2 ws) sv) i).2.2=0:=by
 have a:=Nj (T.bk i).o 3;have b:=CC (vS1 C (gat A2 ws) sv i) (vS1 C (gat A2 ws) sv i).length;have c:=(Xm h hi).1;have d:=KH h hi;rw[Wd C _ sv hi] at b
 unfold heM heE heB
 dsimp only
 rw[Wd C _ sv hi];rw[if_pos];simp only[Bool.and_eq_true];refine⟨⟨Xe (by omega),Xe (by omega)⟩,Xe ?_⟩
 omega
theorem YI(h:stE C S sv=0)(T:FS)(y:T.n=S.n):A1 (lwM C T (gat A2 ws) (vS1 C (gat A2 ws) sv)) 0 3=true:=by
 unfold lwM
 exact Jph _ (by rw[y];exact N6 ((Yb h).2 0 (by omega))) (XX (KM h (by omega) T) (KM h (by omega) T))
theorem YJ(h:stE C S sv=0)(hi:i<2):AV (C.a i 5) (C.a i 6) (C.a i 7) (C.a i 10) (vS1 C (gat A2 ws) sv i):=by
 have y:=PH (show arE (C.a i 5) (C.a i 6) (C.a i 7) (C.a i 10)=0 from Xy (Yb h).1 hi (k:=2) (by omega));refine⟨y,fun k hk=>?_⟩;rw[Wd C _ sv hi] at hk;rw[FM C _ sv hi,Jbp C _ i (sv i) hk];exact Jrq (Ui (CD _ (Xm h hi).2 k hk)).2 y
theorem Jma(h:stE C S sv=0)(hi:i<2):stB (C.a i 0) (C.a i 1) (moI C i) (S.hd i).1 (S.hd i).2.1 (S.hd i).2.2=true:=by
 have:chE C i (S.hd i)=0:=by
  rcases Qtw i with rfl|rfl
  . exact(Yb h).2 5 (by omega)
  . exact(Yb h).2 7 (by omega)
 exact(Wz this).2.1
theorem Jrr(C:CR)(i:Nat)(L:List Sv)(h:1<=moI C i):-moI C i<=pvI C i L/\pvI C i L<=moI C i:=Xb (v:=smU L L.length) (show -moI C i<=moI C i by omega)
theorem Jn8(h:stE C S sv=0)(hl:∀u,Below K wz u->CrL u C)(hi:i<2)(T:FS)(m:T.hd=S.hd)(hn:A1 T.n 0 3=true):AP K wz C T (gat A2 ws) (vS1 C (gat A2 ws) sv) i:=by
 have hc:=YD (Yb h).1 (hl wz (Below.refl _ _)) hi;have d:=KH h hi;have ha:ruE (C.a i 0) (C.a i 1) (C.a i 11) (C.a i 14) (moI C i) (C.al i) (C.zl i)=0:=Xy (Yb h).1 hi (k:=4) (by omega);have e:grE (C.a i 0) (C.a i 1) (C.a i 2) (puI C i) (moI C i) (raI C i)=0:=Xy (Yb h).1 hi (k:=3) (by omega);have w:1<=moI C i:=(Wk (Wl ha).1).2.2.2.2.1;have y:=Jrr C i (vS1 C (gat A2 ws) sv i) w;refine⟨by rw[Wd C _ sv hi];omega,by rw[Wd C _ sv hi];omega,hc.m0,hc.m1,hc.mc,fun u j=>⟨(hl u j i hi).2.2.2.1,(hl u j i hi).2.2.2.2⟩,YJ h hi,hc.h4,hc.h5,hc.h3,hc.h7,hc.h6,?_,?_⟩
 . unfold hoE
   rw[if_pos ha,m,if_pos (Jma h hi),if_pos]
   unfold asB
   rw[hn,Xe y];have:=Xb (v:=(smp (gat A2 ws) (32+(i:Int)) 3).2) (show(-100:Int)<=100 by omega)
   unfold skI
   rw[Xe this]
   rfl
 . unfold gmE
   rw[if_pos e,if_pos (Xe y)]
theorem Ei{m:List Rd}(hk:k<l.length):rat (l++m) k=rat l k:=by
 unfold rat;rw[List.getD_eq_getElem?_getD,List.getD_eq_getElem?_getD,List.getElem?_append_left hk]
theorem Ej{m:List Rd}(hk:l.length<=k):rat (l++m) k=rat m (k-l.length):=by
 unfold rat;rw[List.getD_eq_getElem?_getD,List.getD_eq_getElem?_getD,List.getElem?_append_right hk]
theorem YK(i:Nat)(L:List Sv):∀n k,k<n->rat (rdU i L n) k=rd1 i L k
 |0,k,h=>by omega
 |n+1,k,h=>by
  rw[rdU]
  by_cases e:k=n
  . subst e;rw[Ej (by rw[W6];omega),W6,Nat.sub_self];rfl
  . rw[Ei (by rw[W6];omega)];exact YK i L n k (by omega)
theorem PK(hi:i<2)(h:-2000<=(A0 L k).1/\(A0 L k).1<=2000)(hk:k<9:=by omega):Yf (rd1 i L k)=true:=by
 unfold Yf rd1 BN
 simp only[Bool.and_eq_true,decide_eq_true_eq];refine⟨⟨⟨⟨by omega,by omega⟩,by omega⟩,?_⟩,by omega,by omega⟩
 split<;>omega
theorem Jbq{v:Nat->List Sv}(h:∀i,i<2->(v i).length<=9)(y:∀i,i<2->∀k,k<(v i).length->-2000<=(A0 (v i) k).1/\(A0 (v i) k).1<=2000)(hn:0<=n/\n<=3):∀k,k<(rdA v n).length->Yf (rat (rdA v n) k)=true:=by
 intro k hk;have H:=h 0 (by omega);have Z:=h 1 (by omega)
 have j:rdX v 1=rdU 0 (v 0) (v 0).length:=by simp[rdX]
 have m:rdX v 2=rdX v 1++rdU 1 (v 1) (v 1).length:=rfl
 have e:(rdX v 1).length=(v 0).length:=by rw[j,W6]
 have w:(rdX v 2).length=(v 0).length+(v 1).length:=by rw[m,List.length_append,e,W6]
 have hl:(rdA v n).length=(v 0).length+(v 1).length+1:=by rw[rdA,List.length_append,w];rfl
 unfold rdA
 by_cases h2:k<(rdX v 2).length
 . rw[Ei h2,m]
   by_cases h1:k<(rdX v 1).length
   . rw[Ei h1,j,YK 0 _ _ k (by omega)];exact PK (by omega) (y 0 (by omega) k (by omega))
   . rw[Ej (by omega),e,YK 1 _ _ _ (by omega)];exact PK (by omega) (y 1 (by omega) _ (by omega))
 . rw[Ej (by omega),show k-(rdX v 2).length=0 by omega]
   unfold rat Yf BN
   simp only[List.getD_cons_zero,Bool.and_eq_true,decide_eq_true_eq]
   omega
theorem Jmb{S C:Int}(h:AV T R S C L)(s:Int)(hk:k<L.length):-2000<=(plI T R L s).getD k 0/\(plI T R L s).getD k 0<=2000:=by
 have g:∀(v s:Int) n k,k<n->(dlU T R L v s n).getD k 0=dlI T R L v s k:=by
  intro v s n
  induction n with
  |zero=>intro k h;omega
  |succ n ih=>
   intro k h;rw[dlU,List.getD_eq_getElem?_getD]
   by_cases e:k=n
   . subst e;rw[List.getElem?_append_right (by rw[Xk];omega),Xk];simp
   . rw[List.getElem?_append_left (by rw[Xk];omega),<-List.getD_eq_getElem?_getD];exact ih k (by omega)
 unfold plI
 rw[g _ _ _ _ hk];have a:=DV h hk (YB T R L (smI T R L s))
 unfold dlI
 split<;>omega
theorem PL(T:FS)(l:List Rd)(v:Nat->List Sv)(i:Nat):(mvS C T l v i).length=(v i).length:=II _ _ _
theorem Jh6(T:FS)(l:List Rd)(v:Nat->List Sv)(i:Nat)(h:AV (C.a i 5) (C.a i 6) (C.a i 7) (C.a i 10) (v i))(hk:k<(v i).length):-2000<=(A0 (mvS C T l v i) k).1/\(A0 (mvS C T l v i) k).1<=2000:=by
 unfold mvS svM
 rw[IL _ _ hk];exact Jmb h _ hk
theorem Jbr(h:stE C S sv=0)(K:Nat)(w:V6)(hs:S'.bk=S.bk/\S'.hd=S.hd/\S'.n=S.n)(hl:∀u,Below K w u->CrL u C):Jpg K w C S' (gat A2 ws) sv:=by
 have y:stE C S' sv=0:=by rw[KL hs];exact h
 clear h hs
 have e:∀j,j<3->Yk (S'.bk j).b (S'.bk j).l=0:=fun j X=>by
  rcases Qth j with rfl|rfl|rfl
  . exact(Yb y).2 1 (by omega)
  . exact(Yb y).2 2 (by omega)
  . exact(Yb y).2 3 (by omega)
 have H:∀i,i<2->Ya (C.a i 8) (C.a i 9)=0:=fun i hi=>Xy (Yb y).1 hi (k:=1) (by omega);have hn:A1 S'.n 0 3=true:=N6 ((Yb y).2 0 (by omega))
 have m:∀i,i<2->(sv i).length<=9:=fun i hi=>by have:=KH y hi;omega
 have ha:A1 (sS2 C S' (gat A2 ws) sv).n 0 3=true:=YI y _ rfl
 have Z:∀i,i<2->vS3 C S' (gat A2 ws) sv i=mvS C (sS2 C S' (gat A2 ws) sv) (gat A2 ws) (vS1 C (gat A2 ws) sv) i:=fun i hi=>by
  rcases Qtw i with rfl|rfl<;>rfl
 have hc:∀i,i<2->(vS3 C S' (gat A2 ws) sv i).length=(sv i).length:=fun i hi=>by rw[Z i hi,PL,Wd C _ sv hi]
 have Y:=Zw ha
 exact⟨KK (Jed (Yb y).1) (e 2 (by omega)) (CE ws 8),KK (H 0 (by omega)) (e 0 (by omega)) (CE ws 1),KK (H 1 (by omega)) (e 1 (by omega)) (CE ws 2),m,
  fun i hi k hk=>CD _ (Xm y hi).2 k hk,fun i hi=>by rw[Wd C _ sv hi];exact m i hi,KM y (by omega) _,KM y (by omega) _,hn,Jn8 y hl (by omega) _ rfl ha,Jn8 y hl (by omega) _ rfl ha,
  fun i hi=>by rw[hc i hi];exact m i hi,Jbq (fun i hi=>by rw[hc i hi];exact m i hi) (fun i hi k hk=>by
   rw[hc i hi] at hk;rw[Z i hi]
   exact Jh6 _ _ _ _ (YJ y hi) (by rw[Wd C _ sv hi];exact hk)) Y⟩
end
theorem Jh7(h:crE C=0)(k:∀k,k<8->eSt C S sv k=0):stE C S sv=0:=by
 unfold stE;rw[if_pos h,if_pos (Mh k)]
theorem YL{b:Nat->Int}{l:Int}(h:Yk b l=0):okU b 3=true/\Zx l=true:=by
 unfold Yk at h
 split at h
 . rename_i c;simpa using c
 . cases h
theorem Jh8{b:Nat->Int}{l:Int}(h:∀k,k<3->0<=b k/\b k<=10)(hl:-1000000<=l/\l<=1000000):Yk b l=0:=by
 have g:∀k,k<3->gb (b k)=true:=fun k hk=>by simp only[gb,Bool.and_eq_true,decide_eq_true_eq];exact h k hk
 unfold Yk
 rw[if_pos];simp only[okU,g 0 (by omega),g 1 (by omega),g 2 (by omega),Zx,Bool.and_true,Bool.and_eq_true,decide_eq_true_eq];exact⟨trivial,hl⟩
theorem FN{k:Bk}(h:Yk k.b k.l=0)(hs:Xi t s 3=true):Yk (vbk k m c t s).b (vbk k m c t s).l=0:=by
 obtain⟨h1,h2⟩:=YL h;have hw:=U8 h2;refine Jh8 (fun j y=>?_) (OX (XL hs) hw.1 hw.2);have e:=SZ h1 j y
 show 0<=nbI t k.o s k.b _ m j/\nbI t k.o s k.b _ m j<=10
 unfold nbI OC
 split
 . exact e
 . split
   . omega
   . split<;>omega
theorem Jmc(T R:Int)(L:List Sv)(v s:Int):∀n k,k<n->(dlU T R L v s n).getD k 0=dlI T R L v s k:=by
 intro n
 induction n with
 |zero=>intro k h;omega
 |succ n ih=>
  intro k h;rw[dlU,List.getD_eq_getElem?_getD]
  by_cases e:k=n
  . subst e;rw[List.getElem?_append_right (by rw[Xk];omega),Xk];simp
  . rw[List.getElem?_append_left (by rw[Xk];omega),<-List.getD_eq_getElem?_getD];exact ih k (by omega)
theorem Jpi{S C:Int}(h:AV T R S C L)(v s:Int)(hk:k<L.length):loR T R (A0 L k).1 (A0 L k).2.2<=dlI T R L v s k/\dlI T R L v s k<=hiR T R (A0 L k).1 (A0 L k).2.2:=by
 have a:=Xb (v:=v) (h.le hk);have b:=Xb (v:=v+1) (h.le hk)
 unfold dlI tk
 split<;>omega
theorem Jrs{S C:Int}(h:AV T R S C L)(s:Int)(hk:k<L.length):svB T C ((plI T R L s).getD k 0) (A0 L k).2.1 (A0 L k).2.2=true:=by
 unfold plI
 rw[Jmc _ _ _ _ _ _ _ hk];have a:=Jpi h (YB T R L (smI T R L s)) (smI T R L s-tot T R L (YB T R L (smI T R L s))) hk;have b:=Y2 (h.2 k hk);have t:=(Yh h.1).1;generalize dlI T R L _ _ k=x at*
 unfold loR hiR mxA mnA at a
 cases ho:(A0 L k).2.2
 . rw[ho] at a b;simp only[Bool.false_eq_true,if_false] at a;exact TG (fun h=>by cases h) (fun _=>b.2.2.2 rfl)
 . rw[ho] at a b;simp only[if_true] at a;exact TG (fun _=>by omega) (fun h=>by cases h)
theorem YM:∀n,(∀k,k<n->svE (C.a i 5) (C.a i 6) (C.a i 7) (C.a i 10) (A0 L k).1 (A0 L k).2.1 (A0 L k).2.2=0)->seU C i L n=0
 |0,_=>rfl
 |n+1,h=>by
  rw[seU,if_pos (YM n fun k hk=>h k (by omega))];exact h n (by omega)
theorem NP{h:Int×Int×Int}{k v:Int}(h0:chE C i h=0)(hn:A1 n 0 3=true)(y:1<=moI C i):chE C i (hoM C i h k x v n L)=0:=by
 obtain⟨r,s,a⟩:=Wz (show hoE _ _ _ _ _ _ _ _ _ _ _ _ _=0 from h0);have hs:=Nl s
 unfold chE hoE
 rw[if_pos r,if_pos,if_pos a]
 unfold stB hoM
 simp only[Bool.and_eq_true];refine⟨⟨Xe ?_,Xe ?_⟩,hn⟩
 . show _<=haM C i h k x n/\haM C i h k x n<=_
   unfold haM wA a2I
   split
   . exact Xb (by omega)
   . exact hs.1
 . have hd:-moI C i<=hdM C i h k x v n L/\hdM C i h k x v n L<=moI C i:=by
    unfold hdM wD d2I
    split
    . split
      . exact hs.2.1
      . exact Xb (by omega)
    . exact hs.2.1
   unfold toD
   split
   . exact Xb (by omega)
   . exact hd
section
variable {C : CR} {S : FS} {sv : Nat -> List Sv} {ws : List Int}
theorem Jh9(l:List Rd)(hi:i<2):vS3 C S l sv i=mvS C (sS2 C S l sv) l (vS1 C l sv) i:=by
 rcases Qtw i with rfl|rfl<;>rfl
theorem Jbs(l:List Rd)(hi:i<2):(vS3 C S l sv i).length=(sv i).length:=by rw[Jh9 l hi,PL,Wd C _ sv hi]
theorem YN(h:crE C=0)(hi:i<2):1<=moI C i:=
 (Wk (Wl (show ruE (C.a i 0) (C.a i 1) (C.a i 11) (C.a i 14) (moI C i) (C.al i) (C.zl i)=0 from Xy h hi (k:=4) (by omega))).1).2.2.2.2.1
theorem UH(h:stE C S sv=0):stE C (sS3 C S (gat A2 ws) sv) (vS3 C S (gat A2 ws) sv)=0:=by
 have y:=(Yb h).2;have hl:=YI (ws:=ws) h (sS1 C S (gat A2 ws)) rfl
 have j:∀i,i<2->csE C i (vS3 C S (gat A2 ws) sv i)=0:=fun i hi=>by
  unfold csE
  rw[Jbs _ hi,if_pos (Xm h hi).1];refine YM _ fun k hk=>?_;have ha:=YJ (ws:=ws) h hi;refine JX ha.1 ?_
  have hk':k<(vS1 C (gat A2 ws) sv i).length:=by rw[Wd C _ sv hi];exact hk
  rw[Jh9 _ hi]
  unfold mvS svM
  rw[IL _ _ hk'];exact Jrs ha _ hk'
 have hc:∀i,i<2->chE C i (S.hd i)=0:=fun i hi=>by
  rcases Qtw i with rfl|rfl
  . exact y 5 (by omega)
  . exact y 7 (by omega)
 refine Jh7 (Yb h).1 fun k hk=>?_
 rcases(show k=0\/k=1\/k=2\/k=3\/k=4\/k=5\/k=6\/k=7 by omega) with rfl|rfl|rfl|rfl|rfl|rfl|rfl|rfl
 . show clE (lwM C (sS1 C S (gat A2 ws)) (gat A2 ws) (vS1 C (gat A2 ws) sv))=0
   unfold clE;rw[if_pos hl]
 . exact FN (y 1 (by omega)) (CE ws 1)
 . exact FN (y 2 (by omega)) (CE ws 2)
 . exact FN (y 3 (by omega)) (CE ws 8)
 . exact j 0 (by omega)
 . exact NP (hc 0 (by omega)) hl (YN (Yb h).1 (by omega))
 . exact j 1 (by omega)
 . exact NP (hc 1 (by omega)) hl (YN (Yb h).1 (by omega))
end
abbrev Ft:=Int×Int×Int×Int×Int
def ftD:Ft:=(0,0,0,0,0)
def BK(l:List Ft)(k:Nat):Ft:=l.getD k ftD
structure Stp where
 k:Nat->Int
 p:Nat->Int
 z:Nat->Int
 v:Int
 g:Bool
def YO(now ax h:Int)(y:Bool)(f:Ft):Bool:=decide (f.1<=now)&&(decide (f.2.2.1=ax)&&(decide (f.2.2.2.1=h)&&(decide (f.2.1=4)==y)))
def ED(l:List Ft)(now ax h:Int)(y:Bool):Nat->Option Ft
 |0=>none
 |k+1=>if YO now ax h y (BK l k) then some (BK l k) else ED l now ax h y k
def ail(l:List Ft)(now ax h:Int)(y:Bool):Option Ft:=ED l now ax h y l.length
def cD(x:Int):Int:=Ze x (-262143) 262143
def cW(x:Int):Int:=Ze x (-262144) 262143
def spo(f:Ft)(r:Rd):Rd:=if f.2.1=1 then(r.1,r.2.1,r.2.2.1,cD f.2.2.2.2) else if f.2.1=2 then(r.1,r.2.1,r.2.2.1,cW (r.2.2.2+cD f.2.2.2.2)) else if f.2.1=3 then(r.1,r.2.1,0,r.2.2.2) else r
def sdL(o:Option Ft)(r:Rd):List Rd:=match o with
 |none=>[r]
 |some f=>if f.2.1=0 then[] else[spo f r]
def chR(l:List Ft)(now ax k lab x:Int):List Rd:=sdL (ail l now ax k false) (lab,k,3,cW x)
def dig(b z:Int):Nat->Int
 |0=>z
 |k+1=>dig b z k/b
def noi(N z:Int)(k:Nat):Int:=dig (2*N+1) z k%(2*N+1)-N
def chU(l:List Ft)(now:Int)(i:Nat)(N x z:Int):Nat->List Rd
 |0=>[]
 |k+1=>chU l now i N x z k++chR l now i k (1+i) (x+noi N z k)
def suU(i:Nat)(at':Nat->Int):Nat->List Rd
 |0=>[]
 |k+1=>suU i at' k++[(16+4*(i:Int)+k,3,3,at' k)]
def axR(C:CR)(l:List Ft)(now:Int)(i:Nat)(x:Int)(at':Nat->Int)(s:Stp):List Rd:=chU l now i (C.a i 2) x (s.z i) 3++suU i at' (C.a i 4).toNat++[(32+(i:Int),3,3,s.k i)]
def spR(l:List Ft)(now v:Int):Nat->List Rd
 |0=>[]
 |k+1=>spR l now v k++chR l now 2 k 8 v
def axU(C:CR)(l:List Ft)(now:Int)(x:Nat->Int)(at':Nat->Nat->Int)(s:Stp):Nat->List Rd
 |0=>[]
 |i+1=>axU C l now x at' s i++axR C l now i (x i) (at' i) s
def saR(C:CR)(l:List Ft)(now:Int)(x:Nat->Int)(at':Nat->Nat->Int)(s:Stp):List Rd:=
 axU C l now x at' s 2++spR l now s.v 3++(if s.g then[(40,3,3,1)] else[])
structure FT where
 S:FS
 sv:Nat->List Sv
 x:Nat->Int
 at':Nat->Nat->Int
def plc(C:CR)(l:List Ft)(now:Int)(i k:Nat)(s:Sv):Int:=if s.2.2 then 0 else match ail l now i k true with
 |some f=>Ze f.2.2.2.2 (-(C.a i 5)) (C.a i 5)
 |none=>s.1
def plU(C:CR)(l:List Ft)(now:Int)(i:Nat)(L:List Sv):Nat->Int
 |0=>0
 |k+1=>plU C l now i L k+plc C l now i k (A0 L k)
def wsF(C:CR)(l:List Ft)(now:Int)(q:FT)(s:Stp):List Rd:=gat A2 ((saR C l now q.x q.at' s).map pk1)
def A7(C:CR)(l:List Ft)(now:Int)(q:FT)(s:Stp):FT:=
 ⟨sS3 C q.S (wsF C l now q s) q.sv,vS3 C q.S (wsF C l now q s) q.sv,
  fun i=>q.x i+plU C l now i (vS3 C q.S (wsF C l now q s) q.sv i) (C.a i 4).toNat+s.p i,
  fun i k=>if k<(C.a i 4).toNat then plc C l now i k (A0 (vS3 C q.S (wsF C l now q s) q.sv i) k) else q.at' i k⟩
def zB0:Bk:=⟨fun _=>0,fun _=>false,0⟩
def q0(C:CR):FT:=⟨⟨fun _=>zB0,fun _=>none,fun _=>0,fun _=>0,fun _=>(0,0,0),0⟩,fun i=>List.replicate (C.a i 4).toNat svD,fun _=>0,fun _ _=>0⟩
def stD:Stp:=⟨fun _=>0,fun _=>0,fun _=>0,0,false⟩
def BI(l:List Stp)(k:Nat):Stp:=l.getD k stD
def flU(C:CR)(l:List Ft)(h:List Stp):Nat->FT
 |0=>q0 C
 |n+1=>A7 C l n (flU C l h n) (BI h n)
structure Rp where
 x:Nat->Int
 l:Nat->Int
 s:Nat->Int
 n:Int
 a:Nat->Nat->Int
def rpF(q:FT):Rp:=⟨q.x,fun i=>Zt (q.S.bk i).o 3,fun i=>AI (q.sv i) (q.sv i).length,q.S.n,q.at'⟩
def rpL(r:Rp):List Value:=[Vi (r.x 0),Vi (r.x 1),Vi (r.l 0),Vi (r.l 1),Vi (r.s 0),Vi (r.s 1),Vi r.n,
 Vi (r.a 0 0),Vi (r.a 0 1),Vi (r.a 0 2),Vi (r.a 0 3),Vi (r.a 1 0),Vi (r.a 1 1),Vi (r.a 1 2),Vi (r.a 1 3)]
def rpU(C:CR)(l:List Ft)(h:List Stp):Nat->List Rp
 |0=>[]
 |n+1=>rpU C l h n++[rpF (flU C l h (n+1))]
def ftL(f:Ft):List Value:=[Vi f.1,Vi f.2.1,Vi f.2.2.1,Vi f.2.2.2.1,Vi f.2.2.2.2]
def rdL(r:Rd):List Value:=[Vi r.1,Vi r.2.1,Vi r.2.2.1,Vi r.2.2.2]
theorem YP(f:Ft)(w:V6):Va 300 #[.agg (ftL f).toArray] w (Rt w (.agg #[Vi f.2.2.1,Vi f.2.2.2.1,.bool (decide (f.2.1=4))])):=by
 obtain⟨a,k,x,u,i⟩:=f
 unfold ftL
 dsimp only
 go_enter func300,ntmps300
 go_wp2;exact bodyPost_ret (v:=.agg #[Vi x,Vi u,.bool (decide (k=4))]) (by simp[results,results300,go_sem];rfl) rfl ⟨rfl,Zc Vc Vc⟩
theorem D3(lab x:Int)(w:V6):Va 201 #[Vi lab,Vi x] w (Rt w (.agg (rdL (lab,3,3,x)).toArray)):=by
 go_enter func201,ntmps201
 go_wp2;exact bodyPost_ret (v:=.agg (rdL (lab,3,3,x)).toArray) (by simp[results,results201,go_sem,rdL]) rfl ⟨rfl,Zb _ _⟩
def aiV(o:Option Ft):Value:=match o with
 |none=>.iface 385 (.agg #[])
 |some f=>if f.2.1=0 then .iface 387 (.agg #[]) else if f.2.1=1 then .iface 416 (.agg #[Vi (cD f.2.2.2.2)]) else if f.2.1=2 then .iface 418 (.agg #[Vi (cD f.2.2.2.2)]) else if f.2.1=3 then .iface 419 (.agg #[]) else .iface 385 (.agg #[])
theorem MB(f:Ft)(w:V6):Va 279 #[.agg (ftL f).toArray] w (Rt w (aiV (some f))):=by
 obtain⟨a,k,x,u,i⟩:=f
 unfold ftL aiV
 dsimp only
 have ha:=Y1 i (-262143) 262143;have h:Hd (cD i=Ze i (-262143) 262143):=Za rfl;rw[<-h.o] at ha;clear h;generalize cD i=ci at*
 by_cases h0:k=0
 . have y:(k==0)=true:=by simpa using h0
   rw[if_pos h0];clear h0
   go_enter func279,ntmps279
   go_wp2_with (go_at_call 264;refine Sm (ha _) ?_);go_ret;exact⟨rfl,Zb _ _⟩
 have y:(k==0)=false:=by simpa using h0
 rw[if_neg h0];clear h0
 by_cases h1:k=1
 . have j:(k==1)=true:=by simpa using h1
   rw[if_pos h1];clear h1
   go_enter func279,ntmps279
   go_wp2_with (go_at_call 264;refine Sm (ha _) ?_);go_ret;exact⟨rfl,Zb _ _⟩
 have j:(k==1)=false:=by simpa using h1
 rw[if_neg h1];clear h1
 by_cases h2:k=2
 . have m:(k==2)=true:=by simpa using h2
   rw[if_pos h2];clear h2
   go_enter func279,ntmps279
   go_wp2_with (go_at_call 264;refine Sm (ha _) ?_);go_ret;exact⟨rfl,Zb _ _⟩
 have m:(k==2)=false:=by simpa using h2
 rw[if_neg h2];clear h2
 by_cases h3:k=3
 . have e:(k==3)=true:=by simpa using h3
   rw[if_pos h3];clear h3
   go_enter func279,ntmps279
   go_wp2_with (go_at_call 264;refine Sm (ha _) ?_);go_ret;exact⟨rfl,Zb _ _⟩
 have e:(k==3)=false:=by simpa using h3
 rw[if_neg h3];clear h3
 go_enter func279,ntmps279
 go_wp2_with (go_at_call 264;refine Sm (ha _) ?_);go_ret;exact⟨rfl,Zb _ _⟩
theorem Nn(w:V6)(o h y:Obj):Bw w (((w.alloc o).alloc h).alloc y):=Zc (Zc Vc Vc) Vc
theorem KN(a b c d:Int)(w:V6):Va 416 #[.agg #[],.agg #[Vi a,Vi b,Vi c,Vi d]] w (Rt w (.agg #[Vi a,Vi b,Vi c,Vi d])):=by
 go_enter func416,ntmps416
 go_wp2;exact bodyPost_ret (v:=.agg #[Vi a,Vi b,Vi c,Vi d]) (by simp[results,results416,go_sem]) rfl ⟨rfl,Nn _ _ _ _⟩
theorem UI(x:Int)(a b c d:Int)(w:V6):Va 418 #[.agg #[Vi x],.agg #[Vi a,Vi b,Vi c,Vi d]] w (Rt w (.agg #[Vi a,Vi b,Vi c,Vi x])):=by
 go_enter func418,ntmps418
 go_wp2;exact bodyPost_ret (v:=.agg #[Vi a,Vi b,Vi c,Vi x]) (by simp[results,results418,go_sem]) rfl ⟨rfl,Nn _ _ _ _⟩
theorem YQ(a b c d:Int)(w:V6):Va 420 #[.agg #[],.agg #[Vi a,Vi b,Vi c,Vi d]] w (Rt w (.agg #[Vi a,Vi b,Vi 0,Vi d])):=by
 go_enter func420,ntmps420
 go_wp2;exact bodyPost_ret (v:=.agg #[Vi a,Vi b,Vi 0,Vi d]) (by simp[results,results420,go_sem]) rfl ⟨rfl,Nn _ _ _ _⟩
theorem UJ(x:Int)(hx:-262143<=x/\x<=262143)(a b c d:Int)(hd:-262144<=d/\d<=262143)(w:V6):Va 419 #[.agg #[Vi x],.agg #[Vi a,Vi b,Vi c,Vi d]] w (Rt w (.agg #[Vi a,Vi b,Vi c,Vi (cW (d+x))])):=by
 obtain⟨y,j⟩:=hx;obtain⟨d0,d1⟩:=hd;have h:∀u,Va 244 #[Vi (d+x)] u (Re u (Vi (cW (d+x)))):=fun u=>F9 (d+x) u;generalize cW (d+x)=z at*
 go_enter func419,ntmps419
 go_wp2_with (go_at_call 244;refine Sm (h _) ?_);exact bodyPost_ret (v:=.agg #[Vi a,Vi b,Vi c,Vi z]) (by simp[results,results419,go_sem]) rfl ⟨rfl,Nn _ _ _ _⟩
theorem Jbt{r:Rd}(h0:V2 w g 0 r.1)(h1:V2 w g 1 r.2.1)(h2:V2 w g 2 r.2.2.1)(h3:V2 w g 3 r.2.2.2):Rds w (some (Ad g 0)) [r]:=
 .inr ⟨g,rfl,fun k hk=>by
  obtain rfl:k=0:=by simpa using hk
  exact⟨h0,h1,h2,h3⟩⟩
theorem N7{t fn:Nat}{v:Value}{d y z q:Int}(ha:∀w,Sem.run prog (Instr.typeAssert (.iface t v) 350 387 true) w=.ok (.tuple #[.agg #[],.bool false]) w)(m:∀w,Sem.run prog (method 605 t v "fulmar/plant.spoil") w=.ok (fn,v) w)(hc:∀z w,Sem.run prog (callFunc fn #[v,z]) w=.ok (.enter fn #[v,z]) w)(hs:∀w,Va fn #[v,.agg #[Vi a,Vi b,Vi c,Vi d]] w (Rt w (.agg #[Vi x,Vi y,Vi z,Vi q])))(w:V6):
 Va 245 #[.iface t v,.agg #[Vi a,Vi b,Vi c,Vi d]] w fun e w'=>(∃p cap,e=.returned (.slice p 1 cap)/\Rds w' p [(x,y,z,q)])/\Bw w w':=by
 go_enter func245,ntmps245
 go_wp2_with (refine Sb (hs _) fun H h=>?_;have j:=Za (Zc (Zc (Zb w _) Vc) h);clear h);go_ret
 refine⟨⟨_,_,rfl,Jbt ?_ ?_ ?_ ?_⟩,Zc j.o Vc⟩<;>simp[go_sem]
theorem Jeg(r:Rd)(w:V6):Va 245 #[.iface 387 (.agg #[]),.agg (rdL r).toArray] w fun e w'=>(∃p cap,e=.returned (.slice p 0 cap)/\Rds w' p [])/\Bw w w':=by
 have ha:∀w,Sem.run prog (Instr.typeAssert (.iface 387 (.agg #[])) 350 387 true) w=.ok (.tuple #[.agg #[],.bool true]) w:=fun w=>by kernel_rfl
 unfold rdL
 go_enter func245,ntmps245
 go_wp2;go_ret;exact⟨⟨_,_,rfl,.inl rfl⟩,Zc Vc Vc⟩
theorem Jia(o:Option Ft)(r:Rd)(hd:-262144<=r.2.2.2/\r.2.2.2<=262143)(w:V6):Va 245 #[aiV o,.agg (rdL r).toArray] w fun e w'=>(∃p cap,e=.returned (.slice p (sdL o r).length cap)/\Rds w' p (sdL o r))/\Bw w w':=by
 obtain⟨a,b,c,d⟩:=r
 cases o with
 |none=>exact N7 (fun w=>by kernel_rfl) (fun w=>by kernel_rfl) (fun z w=>by kernel_rfl) (KN a b c d) w
 |some f=>
  obtain⟨h,k,y,f3,i⟩:=f
  unfold aiV sdL
  dsimp only
  by_cases h0:k=0
  . rw[if_pos h0,if_pos h0];exact Jeg _ w
  rw[if_neg h0,if_neg h0]
  unfold spo
  dsimp only
  by_cases h1:k=1
  . rw[if_pos h1,if_pos h1];exact N7 (fun w=>by kernel_rfl) (fun w=>by kernel_rfl) (fun z w=>by kernel_rfl) (UI (cD i) a b c d) w
  rw[if_neg h1,if_neg h1]
  by_cases h2:k=2
  . rw[if_pos h2,if_pos h2];exact N7 (fun w=>by kernel_rfl) (fun w=>by kernel_rfl) (fun z w=>by kernel_rfl) (UJ (cD i) (Xb (by omega)) a b c d hd) w
  rw[if_neg h2,if_neg h2]
  by_cases h3:k=3
  . rw[if_pos h3,if_pos h3];exact N7 (fun w=>by kernel_rfl) (fun w=>by kernel_rfl) (fun z w=>by kernel_rfl) (YQ a b c d) w
  rw[if_neg h3,if_neg h3];exact N7 (fun w=>by kernel_rfl) (fun w=>by kernel_rfl) (fun z w=>by kernel_rfl) (KN a b c d) w
theorem Jso{a b c:Prop}[Decidable a][Decidable b][Decidable c]{R:Type}(f:Bool->R):(if a then if b then if c then f true else f false else f false else f false)=f (decide a&&(decide b&&decide c)):=by
 by_cases ha:a<;>by_cases h:b<;>by_cases hc:c<;>simp[ha,h,hc]
def Fts(u:V6)(a:V8)(l:List Ft):Prop:=l=[]\/∃b off,a=some (Ad b off)/\∀k,k<l.length->u.rangeAt b (off+k*5) (ftL (BK l k))
theorem Fts.lq{a:V8}{l:List Ft}(h:Fts u a l)(y:Bw u u'):Fts u' a l:=by
 rcases h with h|⟨b,off,h,hc⟩
 . exact .inl h
 . exact .inr ⟨b,off,h,fun k hk j v m=>cell_later y (hc k hk j v m)⟩
theorem Fts.at{a:V8}{l:List Ft}(h:Fts u a l)(hk:k<l.length):∃b off,a=some (Ad b off)/\u.rangeAt b (off+k*5) (ftL (BK l k)):=by
 rcases h with h|⟨b,off,h,hc⟩
 . subst h;simp at hk
 . exact⟨b,off,h,hc k hk⟩
theorem W7:(prog.info? 64).map (·.size)=some 5:=by kernel_rfl
theorem Jpj:(prog.info? 369).map (·.size)=some 3:=by kernel_rfl
theorem UK(w:V6)(t:TypeId)(h:List Value)(o y:Obj):Blk t (((w.alloc o).alloc (.cells h.toArray t)).alloc y) (w.heap.size+1) h:=by
 have:=(Blk.new (w.alloc o) t h).lq (Zb _ y);rw[World.size_alloc] at this;exact this
theorem UL(w:V6)(t:TypeId)(h:List Value)(o y:Obj):Blk t (((w.alloc (.cells h.toArray t)).alloc o).alloc y) w.heap.size h:=((Blk.new w t h).lq Vc).lq Vc
theorem UM(w:V6)(t:TypeId)(h:List Value)(o y:Obj):Blk t (((w.alloc o).alloc y).alloc (.cells h.toArray t)) (w.heap.size+1+1) h:=by
 have:=Blk.new ((w.alloc o).alloc y) t h;rw[World.size_alloc,World.size_alloc] at this;exact this
theorem NQ(B:Nat)(pf:V8)(cf:Nat)(l:List Ft)(now ax H:Int)(Z:Bool)(hl:l.length<=1000)(w:V6)(h1:Kc w B 32 (.slice pf l.length cf))(h2:V2 w B 63 now)(C:Fts w pf l):
 Va 263 #[Ve B 0,.agg #[Vi ax,Vi H,.bool Z]] w (Rt w (.tuple #[.agg (ftL ((ail l now ax H Z).getD ftD)).toArray,.bool (ail l now ax H Z).isSome])):=by
 have HF:=Za (fun u (h:Bw w u)=>C.lq h);have H1:=Za (fun u (h:Bw w u)=>cell_later h h1);have H2:=Za (fun u (h:Bw w u)=>cell_later h h2);have A:=Za (Nn w (.cells #[Vi ax,Vi H,.bool Z] 369) (.cells #[Vi 0,Vi 0,Vi 0,Vi 0,Vi 0] 64) (.cells #[Vi 0,Vi 0,Vi 0,Vi 0,Vi 0] 64));have HP:=Za (UL w 369 [Vi ax,Vi H,.bool Z] (.cells #[Vi 0,Vi 0,Vi 0,Vi 0,Vi 0] 64) (.cells #[Vi 0,Vi 0,Vi 0,Vi 0,Vi 0] 64));have HL:=Za (UM w 64 [Vi 0,Vi 0,Vi 0,Vi 0,Vi 0] (.cells #[Vi ax,Vi H,.bool Z] 369) (.cells #[Vi 0,Vi 0,Vi 0,Vi 0,Vi 0] 64));have HR:=Za (UK w 64 [Vi 0,Vi 0,Vi 0,Vi 0,Vi 0] (.cells #[Vi ax,Vi H,.bool Z] 369) (.cells #[Vi 0,Vi 0,Vi 0,Vi 0,Vi 0] 64));have m:Hd (w.heap.size<=w.heap.size+1+1/\w.heap.size≠w.heap.size+1+1/\w.heap.size+1≠w.heap.size+1+1/\w.heap.size<=w.heap.size+1):=Za (by omega);clear C h1 h2
 go_enter func263,ntmps263
 go_upto_region 3 with fail;generalize (((w.alloc (.cells #[Vi ax,Vi H,.bool Z] 369)).alloc (.cells #[Vi 0,Vi 0,Vi 0,Vi 0,Vi 0] 64)).alloc (.cells #[Vi 0,Vi 0,Vi 0,Vi 0,Vi 0] 64))=v0 at *;generalize w.heap.size+1+1=D at *;generalize w.heap.size+1=E at *;have h1:=H1.o v0 A.o
 go_upto_region 4 with fail
 go_loopw [7,15] (fun fo ix wr=>∃k:Nat,k<=l.length/\ix=Vi k/\fo=.bool (ED l now ax H Z k).isSome/\Bw w wr/\Blk 369 wr w.heap.size [Vi ax,Vi H,.bool Z]/\Blk 64 wr D (ftL ((ED l now ax H Z k).getD ftD))/\Blk 64 wr E (ftL ftD)) (fun _ ix _=>l.length-(intOf ix).toNat)
 case atStart=>exact⟨0,Nat.zero_le _,rfl,rfl,A.o,HP.o,HL.o,HR.o⟩
 case round=>
  obtain⟨k,hk,rfl,rfl,F,W,ha,hc⟩:=hrel;clear A HP HL HR h1
  by_cases hlt:k<l.length
  . obtain⟨b,off,rfl,I⟩:=(HF.o wr F).at hlt;have L:Hd (ED l now ax H Z (k+1)=if YO now ax H Z (BK l k) then some (BK l k) else ED l now ax H Z k):=Za rfl;have h2:=H2.o wr F
    have k0:(0:Int)<=(k:Int):=by omega
    have k1:(k:Int)<(l.length:Int):=by omega
    generalize hi:BK l k=f at *;obtain⟨e,X,Q,G,T⟩:=f;have c0:=I 0 _ rfl;have c1:=I 1 _ rfl;have c2:=I 2 _ rfl;have c3:=I 3 _ rfl;have c4:=I 4 _ rfl
    dsimp only at c0 c1 c2 c3 c4
    simp only[Nat.add_zero] at c0;have Hk:=Za F;have Hl:=Za W;have Hi:=Za ha;have Hm:=Za hc;generalize Hn:ED l now ax H Z k=ak at *;clear I F W ha hc hi Hn
    go_upto_region 6 with fail;have K:Hd (Blk 64 (wr.alloc (.cells #[Vi e,Vi X,Vi Q,Vi G,Vi T] 64)) wr.heap.size [Vi e,Vi X,Vi Q,Vi G,Vi T]):=Za (Blk.new wr _ _);have M:=Za (Zc Hk.o (Zb wr (.cells #[Vi e,Vi X,Vi Q,Vi G,Vi T] 64)));have N:=Za (Hl.o.lq (Zb wr (.cells #[Vi e,Vi X,Vi Q,Vi G,Vi T] 64)));have R:=Za (Hi.o.lq (Zb wr (.cells #[Vi e,Vi X,Vi Q,Vi G,Vi T] 64)));have J:=Za (Hm.o.lq (Zb wr (.cells #[Vi e,Vi X,Vi Q,Vi G,Vi T] 64)));have h2:=cell_later (Zb wr (.cells #[Vi e,Vi X,Vi Q,Vi G,Vi T] 64)) h2;have Ho:Hd (D≠wr.heap.size):=Za (by have:=Hi.o.lt;omega);clear Hk Hl Hi Hm c0 c1 c2 c3 c4;generalize wr.alloc (.cells #[Vi e,Vi X,Vi Q,Vi G,Vi T] 64)=v1 at *;generalize wr.heap.size=QX at *;have O:=(K.o.cell (j:=0) rfl).1;have P:Hd (YO now ax H Z (e,X,Q,G,T)=(decide (e<=now)&&(decide (Q=ax)&&(decide (G=H)&&decide (decide (X=4)=Z))))):=Za rfl
    by_cases hn:e<=now
    . have hd:decide (e<=now)=true:=by simpa using hn
      rw[hd] at P;refine Cs [19,20,21,22,23,24,25,26,27,28,29,30,31] ?_;refine Cp 0 19 [] ?_;refine Cq (V5 O) 1 20 [0] ?_;refine Cp 2 21 [] ?_;refine Cp 3 22 [2] ?_;refine Cp 4 23 [3] ?_;refine Cq (V5 h2) 5 24 [4] ?_;refine Cp 6 25 [1,5] ?_;refine Cp 7 26 [6] ?_;refine Cl (x:=.tmp 9) 8 27 [7] (fun y w _ u he=>⟨Zf K.o.range he,rfl⟩) underlying64 W7 ?_;refine Cc 9 28 [8,7] (fun y w h _=>YP (e,X,Q,G,T) _) ?_;refine Cl (x:=.tmp 3) 10 29 [7] (fun y w _ u he=>⟨Zf N.o.range he,rfl⟩) underlying369 Jpj ?_;refine Cp 11 30 [9,10,7] ?_ (hy:=fun y w hF u=>by have e1:y 29=_:=hF.1;have e2:y 28=_:=hF.2.1;clear hF;go_simp;exact Jso (fun x=>Result.ok (Next.value (Value.bool x)) u)) (hw:=fun y w hF=>Zg (congrArg some hF.2.2.1));refine Cp 12 31 [7,11] ?_;refine Ce (fun y u1 Y C=>?_);have U:=Za Y;clear Y C;go_simp;have Y:=U.o;clear U;generalize u1=v6 at Y|-;refine Ek ?_;generalize (decide (Q=ax)&&(decide (G=H)&&decide (decide (X=4)=Z)))=bb at *;have M:=Za (Zc M.o Y);have N:=Za (N.o.lq Y);have R:=Za (R.o.lq Y);have J:=Za (J.o.lq Y);have K:=Za (K.o.lq Y);clear Y h2 O hn hd
      cases bb
      . go_wp2_with fail;go_roundw
        case rel=>exact⟨k+1,by omega,by go_num,by rw[L.o,P.o];rfl,M.o,N.o,by rw[L.o,P.o];exact R.o,J.o⟩
        case measure=>simp[intOf];omega
      . have O:=(K.o.cell (j:=0) rfl).1;have x1:=(K.o.cell (j:=1) rfl).1;have x2:=(K.o.cell (j:=2) rfl).1;have x3:=(K.o.cell (j:=3) rfl).1;have x4:=(K.o.cell (j:=4) rfl).1;have l0:=R.o.cell (j:=0) rfl;have l1:=R.o.cell (j:=1) rfl;have l2:=R.o.cell (j:=2) rfl;have l3:=R.o.cell (j:=3) rfl;have l4:=R.o.cell (j:=4) rfl;have Hp:=Za (((((R.o.set 0 (Vi e)).set 1 (Vi X)).set 2 (Vi Q)).set 3 (Vi G)).set 4 (Vi T));have Hq:=Za (((((N.o.far m.o.2.1 0 (Vi e)).far m.o.2.1 1 (Vi X)).far m.o.2.1 2 (Vi Q)).far m.o.2.1 3 (Vi G)).far m.o.2.1 4 (Vi T));have Hr:=Za (((((J.o.far m.o.2.2.1 0 (Vi e)).far m.o.2.2.1 1 (Vi X)).far m.o.2.2.1 2 (Vi Q)).far m.o.2.2.1 3 (Vi G)).far m.o.2.2.1 4 (Vi T));have Hj:=Za (((((M.o.setCell (p:=⟨D,0,none⟩) m.o.1 (Vi e)).setCell (p:=⟨D,1,none⟩) m.o.1 (Vi X)).setCell (p:=⟨D,2,none⟩) m.o.1 (Vi Q)).setCell (p:=⟨D,3,none⟩) m.o.1 (Vi G)).setCell (p:=⟨D,4,none⟩) m.o.1 (Vi T));have Hu:=Ho.o;go_wp2_with fail;go_roundw
        case rel=>exact⟨k+1,by omega,by go_num,by rw[L.o,P.o];rfl,Hj.o,Hq.o,by rw[L.o,P.o];exact Hp.o,Hr.o⟩
        case measure=>simp[intOf];omega
    . have hd:decide (e<=now)=false:=by simpa using hn
      rw[hd] at P;refine Cs [19,20,21,22,23,24,25,26,27,28,29,30,31] ?_;refine Cp 0 19 [] ?_;refine Cq (V5 O) 1 20 [0] ?_;refine Cp 2 21 [] ?_;refine Cp 3 22 [2] ?_;refine Cp 4 23 [3] ?_;refine Cq (V5 h2) 5 24 [4] ?_;refine Cp 6 25 [1,5] ?_;refine Cp 7 26 [6] ?_;refine Cz 8 27 [7] ?_;refine Cz 9 28 [7] ?_;refine Cz 10 29 [7] ?_;refine Cz 11 30 [7] ?_;refine Cp 12 31 [7,11] ?_;refine Ce (fun y u1 Y C=>?_);have U:=Za Y;clear Y C;go_simp;have Y:=U.o;clear U;generalize u1=v6 at Y|-;refine Ek ?_;have M:=Za (Zc M.o Y);have N:=Za (N.o.lq Y);have R:=Za (R.o.lq Y);have J:=Za (J.o.lq Y);clear Y h2 O hn hd;go_wp2_with fail;go_roundw
      case rel=>exact⟨k+1,by omega,by go_num,by rw[L.o,P.o];rfl,M.o,N.o,by rw[L.o,P.o];exact R.o,J.o⟩
      case measure=>simp[intOf];omega
  . obtain rfl:k=l.length:=by omega
    have M:=Za F;have R:=Za ha;have J:=Za hc;have Hv:=m.o.2.2.1;generalize hg:ED l now ax H Z l.length=ak at *;generalize hh:ak.getD ftD=f at *;have Hs:=Za hg;have Ht:=Za hh;obtain⟨e,X,Q,G,T⟩:=f;have O:=(R.o.cell (j:=0) rfl).1;have x1:=(R.o.cell (j:=1) rfl).1;have x2:=(R.o.cell (j:=2) rfl).1;have x3:=(R.o.cell (j:=3) rfl).1;have x4:=(R.o.cell (j:=4) rfl).1;have l0:=J.o.cell (j:=0) rfl;have l1:=J.o.cell (j:=1) rfl;have l2:=J.o.cell (j:=2) rfl;have l3:=J.o.cell (j:=3) rfl;have l4:=J.o.cell (j:=4) rfl;have Hj:=Za (((((M.o.setCell (p:=⟨E,0,none⟩) m.o.2.2.2 (Vi e)).setCell (p:=⟨E,1,none⟩) m.o.2.2.2 (Vi X)).setCell (p:=⟨E,2,none⟩) m.o.2.2.2 (Vi Q)).setCell (p:=⟨E,3,none⟩) m.o.2.2.2 (Vi G)).setCell (p:=⟨E,4,none⟩) m.o.2.2.2 (Vi T));clear hh hg F W ha hc;go_wp2_with fail;exact bodyPost_ret (v:=.tuple #[.agg (ftL (e,X,Q,G,T)).toArray,.bool ak.isSome]) (by simp[results,results263,go_sem,ftL,l0,l1,l2,l3,l4]) rfl ⟨by rw[show ail l now ax H Z=ak from Hs.o,Ht.o],Hj.o⟩
end Go.Proofs.YtnepnnkdgejheaaGreatDoor
