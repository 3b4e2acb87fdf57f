
import Derived.Test.YtnepnnkdgejheaaGreatDoorKp24
import Derived.Test.YtnepnnkdgejheaaGreatDoorKp34
set_option maxRecDepth 100000
set_option maxHeartbeats 20000000
namespace Go.Proofs.YtnepnnkdgejheaaGreatDoor
open Go.RowKit Plain Tryz
variable {G QA QS X g i k n oS:Nat}{L:List Sv}{Q:Exit->Act->World->Prop}{a:Act}{cs ds:List Value}{op:Oper}{row:Option Nat}{u u' w:V6}
def zBk:Bk:=⟨fun _=>0,fun _=>false,0⟩
def zS(S:FS):FS:=⟨fun _=>zBk,fun _=>none,fun _=>0,fun _=>0,S.hd,S.n⟩
def pkR(l:List Rd):List Value:=(l.map pk1).map (Value.int .u32)
theorem Jjf(l:List Rd)(r:Rd):pkR (l++[r])=pkR l++[.int .u32 (pk1 r)]:=by simp[pkR]
theorem Jqa:(prog.info? 108).map (·.size)=some 6:=by kernel_rfl
theorem Jjg(S:FS):((stL S).drop 23).take 6=hdL (S.hd 0)++hdL (S.hd 1):=rfl
theorem Jm0(S:FS)(w:V6):(Instr.build 110 #[(3,Vi S.n),(2,.agg (hdL (S.hd 0)++hdL (S.hd 1)).toArray)]).run prog w=.ok (.agg (stL (zS S)).toArray) w:=by kernel_rfl
theorem L8{ops:Array Oper}{rest:List Oper}(S:FS)(x y:Operand)(ha:op.guard=none)(ho:op.op=.build 110 #[(3,x),(2,y)])(hx:a.eval x=Vi S.n)(hy:a.eval y=.agg (hdL (S.hd 0)++hdL (S.hd 1)).toArray)(h:wpList prog ops Q rest (a.put op.dst (.agg (stL (zS S)).toArray)) w):wpList prog ops Q (op::rest) a w:=
 wpList_plain ha fun _ hK=>by
  unfold Oper.wp execOp
  simp only[ho,List.map_toArray,List.map_cons,List.map_nil,hx,hy,Sem.run_bind,Jm0,Result.andThen_ok];exact hK _ _ h
theorem GY(S:FS)(hi:i<2)(p:V8)(n c:Nat):(stL S).set (21+i) (.slice p n c)=stL { S with sp:=upd S.sp i p,sn:=upd S.sn i n,sc:=upd S.sc i c }:=by
 rcases Qtw i with rfl|rfl<;>kernel_rfl
theorem Jqb(f:Nat->Int)(hi:i<2)(v:Int):[Vi (f 0),Vi (f 1)].set i (Vi v)=[Vi (upd f i v 0),Vi (upd f i v 1)]:=by
 rcases Qtw i with rfl|rfl<;>rfl
def bnI(C:CR)(S:FS)(l:List Rd)(i:Nat):Bk:=vbk (S.bk i) (C.a i 8) (C.a i 9) (tS l (1+(i:Int))) (sS l (1+(i:Int)))
def b2I(C:CR)(S:FS)(l:List Rd):Bk:=vbk (S.bk 2) C.c0 C.c1 (tS l 8) (sS l 8)
def bkX(C:CR)(S:FS)(l:List Rd):Nat->Nat->Bk
 |0=>upd (fun _=>zBk) 2 (b2I C S l)
 |i+1=>upd (bkX C S l i) i (bnI C S l i)
def atX(C:CR)(S:FS)(l:List Rd):Nat->Nat->Int
 |0=>fun _=>0
 |i+1=>upd (atX C S l i) i (bnI C S l i).l
def wtU(C:CR)(l:List Rd)(i:Nat)(L:List Sv):Nat->List Sv
 |0=>[]
 |k+1=>wtU C l i L k++[wv C l i k (A0 L k)]
theorem PY(C:CR)(l:List Rd)(i:Nat)(L:List Sv):∀k,(wtU C l i L k).length=k
 |0=>rfl
 |k+1=>by rw[wtU,List.length_append,PY C l i L k];rfl
theorem Jm1(C:CR)(l:List Rd)(i:Nat)(L:List Sv):wtU C l i L L.length=wml C l i L L.length:=by
 have key:∀k,wtU C l i L k=(List.range k).map fun j=>wv C l i j (A0 L j):=by
  intro k
  induction k with
  |zero=>rfl
  |succ k h=>rw[wtU,h,List.range_succ,List.map_append];rfl
 rw[key]
 unfold wml
 apply List.map_congr_left;intro j y;rw[if_pos (by simpa using y)]
def sdU(C:CR)(l:List Rd)(i:Nat)(L:List Sv):Nat->Int
 |0=>0
 |k+1=>if(wv C l i k (A0 L k)).2.2 then sdU C l i L k else sdU C l i L k+1
theorem PZ(C:CR)(l:List Rd)(i:Nat)(L:List Sv):sdU C l i L L.length=AI (wml C l i L L.length) L.length:=by
 have key:∀k,k<=L.length->sdU C l i L k=AI (wml C l i L L.length) k:=by
  intro k
  induction k with
  |zero=>intro _;rfl
  |succ k ih=>intro h;rw[sdU,AI,ih (by omega),Jbp C l i L (by omega)]
 exact key _ (Nat.le_refl _)
theorem Jjh(C:CR)(l:List Rd)(i:Nat)(L:List Sv):∀k:Nat,0<=sdU C l i L k/\sdU C l i L k<=k
 |0=>by simp[sdU]
 |k+1=>by have:=Jjh C l i L k;simp only[sdU];split<;>omega
def wsU(C:CR)(S:FS)(l:List Rd)(sv:Nat->List Sv):Nat->Int
 |0=>0
 |i+1=>mxL (wsU C S l sv i) (BT (Zt (bnI C S l i).o 3) (sdU C l i (sv i) (sv i).length) (C.a i 4))
theorem Jm2{b o:Nat}{x y z:Value}(h0:Kc u b o x)(h1:Kc u b (o+1) y)(h2:Kc u b (o+2) z):u.rangeAt b o [x,y,z]:=fun j v h=>by
 match j with
 |0=>simp at h;subst h;exact h0
 |1=>simp at h;subst h;exact h1
 |2=>simp at h;subst h;exact h2
 |j+3=>simp at h
theorem Q2{α:Type}{f:Nat->α}{v:α}(h:f i=v):upd f i v=f:=by
 funext j
 unfold upd
 split
 . rename_i e;rw[e,h]
 . rfl
theorem ZA(f:Nat->Int)(hi:i<2):[Vi (f 0),Vi (f 1)][i]?=some (Vi (f i)):=by
 rcases Qtw i with rfl|rfl<;>rfl
theorem My(S:FS)(hi:i<2){p:V8}{c:Nat}(h:S.sp i=p/\S.sn i=n/\S.sc i=c):(stL S)[21+i]?=some (.slice p n c):=by rw[Uw S hi,h.1,h.2.1,h.2.2]
theorem Em{P:Program}{K:Act->World->Prop}(j:TypeId)(x y:Operand)(ho:op.op=.store j x y)(b o:Nat)(cells:List Value)(hx:a.eval x=Ve b o)(hy:a.eval y=.agg cells.toArray)(e:w.there b o cells.length)(hi:(P.info? j).map (·.size)=some cells.length)(h1:cells.all (·.oneCell')=true)(hd:op.dst=none)(h:K a (w.setCells b o cells)):op.wp P a w K Q:=
 wp_store_mid j x y ho b o cells.toArray hx hy (by simpa using e) (by simpa using hi) (by simpa using h1) (by rw[hd];exact h)
def StX(w:V6)(QS h y:Nat)(j e:List Value)(u:V6):Prop:=Bw w u/\u.rangeAt QS h j/\u.rangeAt y 0 e
theorem StX.lq(y:Bw u u')(h:StX w QS oS QA cs ds u):StX w QS oS QA cs ds u':=⟨Zc h.1 y,Zf h.2.1 y,Zf h.2.2 y⟩
theorem StX.put(j:w.heap.size<=X/\QS≠X/\QA≠X)(y:List Value)(o:Nat)(h:StX w QS oS QA cs ds u):StX w QS oS QA cs ds (u.setCells X o y):=
 ⟨Zo y o u h.1 j.1,World.rangeAt_setCells_apart h.2.1 X o y (.inl j.2.1),World.rangeAt_setCells_apart h.2.2 X o y (.inl j.2.2)⟩
theorem StX.grew(y:u.grownBy u' row)(H:∀k,row=some k->w.heap.size<=k/\QS≠k/\QA≠k)(h:StX w QS oS QA cs ds u):StX w QS oS QA cs ds u':=
 ⟨h.1.grown y h.1.size (fun k e=>(H k e).1),fun j v Z=>y.cell (h.2.1 j v Z) (fun e=>(H _ e.symm).2.1 rfl),fun j v Z=>y.cell (h.2.2 j v Z) (fun e=>(H _ e.symm).2.2 rfl)⟩
theorem AP.congr{K:Nat}{wz:V6}{C:CR}{S S':FS}{l:List Rd}{sv sv':Nat->List Sv}(h:AP K wz C S l sv i)(h1:S'.hd i=S.hd i)(h2:S'.n=S.n)(h3:sv' i=sv i):AP K wz C S' l sv' i:=
 ⟨by rw[h3];exact h.n1,by rw[h3];exact h.n4,h.m0,h.m1,h.mc,h.line,by rw[h3];exact h.ok,h.h4,h.h5,h.h3,h.h7,h.h6,by rw[h1,h2,h3];exact h.ho,by rw[h3];exact h.gm⟩
def hdX(C:CR)(S:FS)(l:List Rd)(sv:Nat->List Sv):Nat->Nat->Int×Int×Int
 |0=>S.hd
 |i+1=>upd (hdX C S l sv i) i (mvH C (sS2 C S l sv) l (vS1 C l sv) i)
def svX(C:CR)(S:FS)(l:List Rd)(sv:Nat->List Sv):Nat->Nat->List Sv
 |0=>vS1 C l sv
 |i+1=>upd (svX C S l sv i) i (mvS C (sS2 C S l sv) l (vS1 C l sv) i)
theorem Jji(C:CR)(S:FS)(l:List Rd)(sv:Nat->List Sv)(hi:i<2):hdX C S l sv i i=S.hd i:=by
 rcases Qtw i with rfl|rfl
 . rfl
 . show upd S.hd 0 _ 1=S.hd 1
   exact Yv _ _ (by omega)
theorem ZB(C:CR)(S:FS)(l:List Rd)(sv:Nat->List Sv)(hi:i<2):svX C S l sv i i=vS1 C l sv i:=by
 rcases Qtw i with rfl|rfl
 . rfl
 . show upd (vS1 C l sv) 0 _ 1=vS1 C l sv 1
   exact Yv _ _ (by omega)
theorem Jqc(C:CR)(S:FS)(l:List Rd)(sv:Nat->List Sv)(hi:i<2):vS3 C S l sv i=mvS C (sS2 C S l sv) l (vS1 C l sv) i:=by
 rcases Qtw i with rfl|rfl
 . show upd (upd _ 0 _) 1 _ 0=_
   rw[Yv _ _ (by omega),Zs]
 . show upd (upd _ 0 _) 1 _ 1=_
   rw[Zs]
theorem ZC(C:CR)(S:FS)(l:List Rd)(hi:i<2):(sS1 C S l).bk i=bnI C S l i:=by
 rcases Qtw i with rfl|rfl<;>rfl
theorem Jqd(C:CR)(S:FS)(l:List Rd)(sv:Nat->List Sv)(hi:i<2):(sS2 C S l sv).bk i=bnI C S l i:=ZC C S l hi
theorem Jm3(C:CR)(S:FS)(l:List Rd)(sv:Nat->List Sv):(sS2 C S l sv).bk 2=b2I C S l:=rfl
theorem Jm4(C:CR)(S:FS)(l:List Rd)(hi:i<2):atX C S l 2 i=(bnI C S l i).l:=by
 rcases Qtw i with rfl|rfl
 . show upd (upd _ 0 _) 1 _ 0=_
   rw[Yv _ _ (by omega),Zs]
 . show upd (upd _ 0 _) 1 _ 1=_
   rw[Zs]
theorem Jm5(C:CR)(S:FS)(ws:V9)(sv:Nat->List Sv)(h:stE C S sv=0):
 (if decide ((smp (gat A2 ws) 40 3).2=1) then wsU C S (gat A2 ws) sv 2 else mxL S.n (wsU C S (gat A2 ws) sv 2))=(sS2 C S (gat A2 ws) sv).n:=by
 have j:heM C (sS1 C S (gat A2 ws)) (vS1 C (gat A2 ws) sv) 0=(Zt (bnI C S (gat A2 ws) 0).o 3,sdU C (gat A2 ws) 0 (sv 0) (sv 0).length,C.a 0 4):=by
  unfold heM
  rw[PZ,FM C _ sv (by omega),Uk];have:(sS1 C S (gat A2 ws)).bk 0=bnI C S (gat A2 ws) 0:=ZC C S _ (by omega);rw[this]
 have e:heM C (sS1 C S (gat A2 ws)) (vS1 C (gat A2 ws) sv) 1=(Zt (bnI C S (gat A2 ws) 1).o 3,sdU C (gat A2 ws) 1 (sv 1) (sv 1).length,C.a 1 4):=by
  unfold heM
  rw[PZ,FM C _ sv (by omega),Uk];have:(sS1 C S (gat A2 ws)).bk 1=bnI C S (gat A2 ws) 1:=ZC C S _ (by omega);rw[this]
 have h0:=KM (ws:=ws) h (i:=0) (by omega) (sS1 C S (gat A2 ws));have h1:=KM (ws:=ws) h (i:=1) (by omega) (sS1 C S (gat A2 ws))
 have hw:waI [heM C (sS1 C S (gat A2 ws)) (vS1 C (gat A2 ws) sv) 0,heM C (sS1 C S (gat A2 ws)) (vS1 C (gat A2 ws) sv) 1]=wsU C S (gat A2 ws) sv 2:=by
  rw[Jbb h0 h1,j,e];rfl
 have y:=XX h0 h1;have hn:A1 S.n 0 3=true:=N6 (show clE S.n=0 from(Yb h).2 0 (by omega))
 show _=lwM C (sS1 C S (gat A2 ws)) (gat A2 ws) (vS1 C (gat A2 ws) sv)
 unfold lwM neI
 rw[hw] at y|-;rw[show(sS1 C S (gat A2 ws)).n=S.n from rfl,hn,y]
 rfl
theorem W8(b:Nat):∀(h:List Value) (o:Nat) (u:V6),(u.setCells b o h).heap.size=u.heap.size
 |[],_,_=>rfl
 |v::r,o,u=>(W8 b r (o+1) (u.setCell ⟨b,o,none⟩ v)).trans (World.size_setCell _ _ _)
def Av(w:V6)(a:V8)(l:List Rd)(QC QS QO QT QY:Nat)(T:FS)(m k:Nat):Prop:=
 w.heap.size<=k/\QC≠k/\QS≠k/\QO≠k/\QT≠k/\QY≠k/\(∀g,a=some (Ad g 0)->l≠[]->g≠k)/\∀j,j<m->∀G,T.sp j=some (Ad G 0)->G≠k
def zL:List Value:=Qag
structure SP (w u:V6) (C:CR) (S:FS) (a:V8) (l:List Rd) (QC QS QO QT QY:Nat) (T:FS) (av:Nat->Int) (V:Nat->List Sv) (m:Nat):Prop where
 cr:Blk 41 u QC (crL C)
 st:Blk 110 u QS (stL S)
 o:Blk 110 u QO (stL T)
 atb:Blk 68 u QT [Vi (av 0),Vi (av 1)]
 yb:Blk 110 u QY zL
 rds:Rds u a l
 low:Bw w u
 bd:w.heap.size<=QO/\w.heap.size<=QT/\QC≠QO/\QS≠QO/\QC≠QT/\QS≠QT/\QO≠QT/\QY≠QO/\QY≠QT/\w.heap.size<=QY
 far:∀g,a=some (Ad g 0)->l≠[]->g≠QO/\g≠QT
 sv:∀j,j<m->∃G,T.sp j=some (Ad G 0)/\T.sn j=(V j).length/\VLs u (some (Ad G 0)) (V j)/\G<u.heap.size/\G≠QO/\G≠QT/\QY<G
section
variable {w u u' : World} {C : CR} {S : FS} {a : Option Addr} {l : List Rd} {QC QS QO QT QY : Nat} {T : FS} {av : Nat -> Int} {V : Nat -> List Sv} {m : Nat}
theorem SP.lq(h:SP w u C S a l QC QS QO QT QY T av V m)(y:Bw u u'):SP w u' C S a l QC QS QO QT QY T av V m:=
 ⟨h.cr.lq y,h.st.lq y,h.o.lq y,h.atb.lq y,h.yb.lq y,h.rds.lq y,Zc h.low y,h.bd,h.far,fun j e=>(h.sv j e).elim fun G k=>⟨G,k.1,k.2.1,k.2.2.1.lq y,Nat.lt_of_lt_of_le k.2.2.2.1 y.size,k.2.2.2.2⟩⟩
theorem SP.avoid(h:SP w u C S a l QC QS QO QT QY T av V m)(hk:u.heap.size<=k):Av w a l QC QS QO QT QY T m k:=by
 have h1:=h.cr.lt;have h2:=h.st.lt;have h3:=h.o.lt;have h4:=h.atb.lt;have h5:=h.low.size;have h6:=h.yb.lt;refine⟨by omega,by omega,by omega,by omega,by omega,by omega,fun g e hl=>?_,fun j y G e=>?_⟩
 . have:=YF h.rds g e hl;omega
 . obtain⟨Z,H,_,_,hG,_⟩:=h.sv j y;rw[H] at e;simp only[Option.some.injEq,Addr.mk.injEq] at e
   omega
theorem Av.congr{T':FS}(h:Av w a l QC QS QO QT QY T m k)(hs:∀j,j<m->T'.sp j=T.sp j):Av w a l QC QS QO QT QY T' m k:=
 ⟨h.1,h.2.1,h.2.2.1,h.2.2.2.1,h.2.2.2.2.1,h.2.2.2.2.2.1,h.2.2.2.2.2.2.1,fun j y G e=>h.2.2.2.2.2.2.2 j y G ((hs j y).symm.trans e)⟩
theorem SP.putO(h:SP w u C S a l QC QS QO QT QY T av V m)(H:FS)(y:List Value)(o:Nat)(Y:B8 (stL T) o y=stL H)(hs:∀j,j<m->H.sp j=T.sp j/\H.sn j=T.sn j):SP w (u.setCells QO o y) C S a l QC QS QO QT QY H av V m:=
 ⟨Blk.farCells h.bd.2.2.1 y o u h.cr,Blk.farCells h.bd.2.2.2.1 y o u h.st,Y▸Blk.setCells y o u _ h.o,Blk.farCells (fun e=>h.bd.2.2.2.2.2.2.1 e.symm) y o u h.atb,Blk.farCells h.bd.2.2.2.2.2.2.2.1 y o u h.yb,Xw (fun g e hl=>(h.far g e hl).1) y o u h.rds,Zo y o u h.low h.bd.1,h.bd,h.far,
  fun j Z=>(h.sv j Z).elim fun G k=>⟨G,(hs j Z).1.trans k.1,(hs j Z).2.trans k.2.1,U4 k.2.2.2.2.1 y o k.2.2.1,by rw[W8];exact k.2.2.2.1,k.2.2.2.2⟩⟩
theorem SP.putT(h:SP w u C S a l QC QS QO QT QY T av V m)(av':Nat->Int)(y:List Value)(o:Nat)(H:B8 [Vi (av 0),Vi (av 1)] o y=[Vi (av' 0),Vi (av' 1)]):SP w (u.setCells QT o y) C S a l QC QS QO QT QY T av' V m:=
 ⟨Blk.farCells h.bd.2.2.2.2.1 y o u h.cr,Blk.farCells h.bd.2.2.2.2.2.1 y o u h.st,Blk.farCells h.bd.2.2.2.2.2.2.1 y o u h.o,H▸Blk.setCells y o u _ h.atb,Blk.farCells h.bd.2.2.2.2.2.2.2.2.1 y o u h.yb,Xw (fun g e hl=>(h.far g e hl).2) y o u h.rds,Zo y o u h.low h.bd.2.1,h.bd,h.far,
  fun j Z=>(h.sv j Z).elim fun G k=>⟨G,k.1,k.2.1,U4 k.2.2.2.2.2.1 y o k.2.2.1,by rw[W8];exact k.2.2.2.1,k.2.2.2.2⟩⟩
theorem SP.farCells(h:SP w u C S a l QC QS QO QT QY T av V m)(e:Av w a l QC QS QO QT QY T m X)(y:List Value)(o:Nat):SP w (u.setCells X o y) C S a l QC QS QO QT QY T av V m:=
 ⟨Blk.farCells e.2.1 y o u h.cr,Blk.farCells e.2.2.1 y o u h.st,Blk.farCells e.2.2.2.1 y o u h.o,Blk.farCells e.2.2.2.2.1 y o u h.atb,Blk.farCells e.2.2.2.2.2.1 y o u h.yb,Xw e.2.2.2.2.2.2.1 y o u h.rds,Zo y o u h.low e.1,h.bd,h.far,
  fun j H=>(h.sv j H).elim fun G k=>⟨G,k.1,k.2.1,U4 (e.2.2.2.2.2.2.2 j H G k.1) y o k.2.2.1,by rw[W8];exact k.2.2.2.1,k.2.2.2.2⟩⟩
theorem SP.putS(h:SP w u C S a l QC QS QO QT QY T av V m)(hi:i<2)(g n c:Nat)(L:List Sv)(hn:n=L.length)(H:VLs u (some (Ad g 0)) L)(y:g<u.heap.size/\g≠QO/\g≠QT/\QY<g):
 SP w (u.setCells QO (21+i) [Vf g 0 n c]) C S a l QC QS QO QT QY { T with sp:=upd T.sp i (some (Ad g 0)),sn:=upd T.sn i n,sc:=upd T.sc i c } av (upd V i L) m:=
 ⟨Blk.farCells h.bd.2.2.1 _ _ u h.cr,Blk.farCells h.bd.2.2.2.1 _ _ u h.st,GY T hi (some (Ad g 0)) n c▸Blk.setCells [Vf g 0 n c] (21+i) u _ h.o,Blk.farCells (fun e=>h.bd.2.2.2.2.2.2.1 e.symm) _ _ u h.atb,Blk.farCells h.bd.2.2.2.2.2.2.2.1 _ _ u h.yb,Xw (fun g e hl=>(h.far g e hl).1) _ _ u h.rds,Zo _ _ u h.low h.bd.1,h.bd,h.far,
  fun j Z=>by
   by_cases e:j=i
   . subst e;refine⟨g,Zs _ _ _,?_,?_,by rw[W8];exact y.1,y.2⟩
     . show upd T.sn j n j=(upd V j L j).length
       rw[Zs,Zs,hn]
     . rw[Zs];exact U4 y.2.1 _ _ H
   . obtain⟨G,k⟩:=h.sv j Z;refine⟨G,?_,?_,?_,by rw[W8];exact k.2.2.2.1,k.2.2.2.2⟩
     . show upd T.sp i _ j=_
       rw[Yv _ _ e];exact k.1
     . show upd T.sn i n j=(upd V i L j).length
       rw[Yv _ _ e,Yv _ _ e];exact k.2.1
     . rw[Yv _ _ e]
       exact U4 k.2.2.2.2.1 _ _ k.2.2.1⟩
theorem SP.servoAt(h:SP w u C S a l QC QS QO QT QY T av V m)(hi:i<m)(H:T.sp i=some (Ad g 0))(Z:V i=L)(hk:k<L.length):u.cell? (Ad g (k*3))=some (Vi (A0 L k).1)/\u.cell? (Ad g (k*3+2))=some (.bool (A0 L k).2.2):=by
 obtain⟨G,y,_,j,_⟩:=h.sv i hi;rw[H] at y;rw[Z,<-y] at j;obtain⟨b,off,e,c0,_,c2⟩:=j.at hk;simp only[Option.some.injEq,Addr.mk.injEq] at e;obtain⟨rfl,rfl,_⟩:=e;rw[Nat.zero_add] at c0 c2;exact⟨c0,c2⟩
theorem Av.put{q:Nat}{p:V8}(h:Av w a l QC QS QO QT QY T m q)(H:p=some (Ad g 0))(X:q<g)(y:FS)(Z:y.sp=upd T.sp i p):Av w a l QC QS QO QT QY y m q:=
 ⟨h.1,h.2.1,h.2.2.1,h.2.2.2.1,h.2.2.2.2.1,h.2.2.2.2.2.1,h.2.2.2.2.2.2.1,fun j Y G e=>by
  rw[Z] at e
  by_cases ej:j=i
  . subst ej;rw[Zs,H] at e;simp only[Option.some.injEq,Addr.mk.injEq] at e
    omega
  . rw[Yv _ _ ej] at e
    exact h.2.2.2.2.2.2.2 j Y G e⟩
theorem Blk.grew{t:TypeId}{B:Nat}(h:Blk t u B cs)(y:u.grownBy u' row)(j:some B≠row):Blk t u' B cs:=(y.block B h.lt j).trans h
theorem Jm6(h:VLs u (some (Ad G 0)) L)(hl:1<=L.length):G<u.heap.size:=by
 obtain⟨b,off,e,c,_⟩:=h.at (k:=0) hl;simp only[Option.some.injEq,Addr.mk.injEq] at e;have:=World.block_lt_of_cell? u _ c
 simp at this
 omega
theorem L9{P base:Nat}{e:TypeId}{size:Nat}{v:Value}{xs:List Value}:∀(y:List Value) (o:Nat) {u:V6},u.ownsRow base e size v n xs->some P≠v.ownBlock->(u.setCells P o y).ownsRow base e size v n xs
 |[],_,_,h,_=>h
 |_::r,o,_,h,hP=>L9 r (o+1) (EL h hP) hP
theorem Jeu(h:Rds u a l)(y:u.grownBy u' row)(j:∀g,a=some (Ad g 0)->l≠[]->some g≠row):Rds u' a l:=by
 rcases h with h|⟨g,e,hc⟩
 . exact .inl h
 . refine .inr ⟨g,e,fun k hk=>?_⟩;have hn:=j g e (fun h=>by subst h;simp at hk);have c:=hc k hk;exact⟨y.cell c.1 hn,y.cell c.2.1 hn,y.cell c.2.2.1 hn,y.cell c.2.2.2 hn⟩
theorem Jev(h:VLs u (some (Ad G 0)) L)(y:u.grownBy u' row)(j:some G≠row):VLs u' (some (Ad G 0)) L:=by
 rcases h with h|⟨b,off,e,hc⟩
 . exact .inl h
 . simp only[Option.some.injEq,Addr.mk.injEq] at e;obtain⟨rfl,rfl,_⟩:=e;exact .inr ⟨G,0,rfl,fun k hk=>⟨y.cell (hc k hk).1 j,y.cell (hc k hk).2.1 j,y.cell (hc k hk).2.2 j⟩⟩
theorem SP.grown(h:SP w u C S a l QC QS QO QT QY T av V m)(y:u.grownBy u' row)(H:∀k,row=some k->Av w a l QC QS QO QT QY T m k):SP w u' C S a l QC QS QO QT QY T av V m:=
 ⟨h.cr.grew y (fun e=>(H _ e.symm).2.1 rfl),h.st.grew y (fun e=>(H _ e.symm).2.2.1 rfl),h.o.grew y (fun e=>(H _ e.symm).2.2.2.1 rfl),h.atb.grew y (fun e=>(H _ e.symm).2.2.2.2.1 rfl),h.yb.grew y (fun e=>(H _ e.symm).2.2.2.2.2.1 rfl),Jeu h.rds y (fun g e hl Y=>(H _ Y.symm).2.2.2.2.2.2.1 g e hl rfl),h.low.grown y h.low.size (fun k e=>(H k e).1),h.bd,h.far,
  fun j Z=>(h.sv j Z).elim fun G k=>⟨G,k.1,k.2.1,Jev k.2.2.1 y (fun e=>(H _ e.symm).2.2.2.2.2.2.2 j Z G k.1 rfl),Nat.lt_of_lt_of_le k.2.2.2.1 y.size,k.2.2.2.2⟩⟩
end
theorem VE(tmps:Array Value)(U:V6)(Y:Nat)(h:List Value)(x:Value)(h6:tmps.getD 6 undef=Ve Y 0)(h7:tmps.getD 7 undef=x)(y:U.rangeAt Y 0 h)(hn:h.length=30):
 (results Tryz.f50 tmps).run prog U=.ok (.tuple #[.agg h.toArray,x]) U:=by
 have h3:tmps[6]?.getD undef=Ve Y 0:=by simpa using h6
 have h4:tmps[7]?.getD undef=x:=by simpa using h7
 simp[results,results50,h3,h4,asAddr,run_loadVar_mid U Y 0 110 h _ y underlying110 rfl (by rw[Yj,hn])]
end Go.Proofs.YtnepnnkdgejheaaGreatDoor
