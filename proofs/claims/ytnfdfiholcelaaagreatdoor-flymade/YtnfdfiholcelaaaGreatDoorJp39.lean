
import Derived.Test.YtnfdfiholcelaaaGreatDoorJp24
import Derived.Test.YtnfdfiholcelaaaGreatDoorJp37
import Derived.Test.YtnfdfiholcelaaaGreatDoorJp38
set_option maxRecDepth 100000
set_option maxHeartbeats 20000000
namespace Go.Proofs.YtnfdfiholcelaaaGreatDoor
open Go.RowKit Plain Tryz
variable {B G QA QS X base c g i j k n o oS size:Nat}{C:CR}{K:Act→World→Prop}{L:List Sv}{P:Program}{Q:Exit→Act→World→Prop}{a:Act}{cs ds xs:List Value}{op:Oper}{ops:Array Oper}{p:Option Addr}{rest:List Oper}{row:Option Nat}{t:TypeId}{u u' w:World}{v z:Value}
def zBk:Bk:=⟨fun _=>0,fun _=>false,0⟩
def zS(S:FS):FS:=⟨fun _=>zBk,fun _=>none,fun _=>0,fun _=>0,S.hd,S.n⟩
def pkR(l:List Rd):List Value:=(l.map pk1).map (Value.int .u32)
theorem pkR_snoc(l:List Rd)(r:Rd):pkR (l++[r])=pkR l++[.int .u32 (pk1 r)]:=by simp[pkR]
theorem infoH6:(prog.info? 39).map (·.size)=some 6:=by kernel_rfl
theorem st_holds(S:FS):((stL S).drop 23).take 6=hdL (S.hd 0)++hdL (S.hd 1):=rfl
theorem buildSt(S:FS)(w:World):(Instr.build 41 #[(3,Vi S.n),(2,.agg (hdL (S.hd 0)++hdL (S.hd 1)).toArray)]).run prog w=.ok (.agg (stL (zS S)).toArray) w:=by kernel_rfl
theorem wpList_buildSt(S:FS)(x y:Operand)(hgd:op.guard=none)(ho:op.op=.build 41 #[(3,x),(2,y)])(hx:a.eval x=Vi S.n)(hy:a.eval y=.agg (hdL (S.hd 0)++hdL (S.hd 1)).toArray)(h:wpList prog ops Q rest (a.put op.dst (.agg (stL (zS S)).toArray)) w):wpList prog ops Q (op::rest) a w:=
 wpList_plain hgd fun _ hK=>by
  unfold Oper.wp execOp
  simp only[ho,List.map_toArray,List.map_cons,List.map_nil,hx,hy,Sem.run_bind,buildSt,Result.andThen_ok];exact hK _ _ h
theorem st_putServo(S:FS)(hi:i<2)(p:Option Addr)(n c:Nat):(stL S).set (21+i) (.slice p n c)=stL { S with sp:=upd S.sp i p,sn:=upd S.sn i n,sc:=upd S.sc i c }:=by
 rcases Qtw i with rfl|rfl<;>kernel_rfl
theorem at_put(f:Nat→Int)(hi:i<2)(v:Int):[Vi (f 0),Vi (f 1)].set i (Vi v)=[Vi (upd f i v 0),Vi (upd f i v 1)]:=by
 rcases Qtw i with rfl|rfl<;>rfl
def bnI(C:CR)(S:FS)(l:List Rd)(i:Nat):Bk:=vbk (S.bk i) (C.a i 8) (C.a i 9) (tS l (1+(i:Int))) (sS l (1+(i:Int)))
def b2I(C:CR)(S:FS)(l:List Rd):Bk:=vbk (S.bk 2) C.c0 C.c1 (tS l 8) (sS l 8)
def bkX(C:CR)(S:FS)(l:List Rd):Nat→Nat→Bk
 |0=>upd (fun _=>zBk) 2 (b2I C S l)
 |i+1=>upd (bkX C S l i) i (bnI C S l i)
def atX(C:CR)(S:FS)(l:List Rd):Nat→Nat→Int
 |0=>fun _=>0
 |i+1=>upd (atX C S l i) i (bnI C S l i).l
def wtU(C:CR)(l:List Rd)(i:Nat)(L:List Sv):Nat→List Sv
 |0=>[]
 |k+1=>wtU C l i L k++[wv C l i k (svAt L k)]
theorem wtU_len(C:CR)(l:List Rd)(i:Nat)(L:List Sv):∀k,(wtU C l i L k).length=k
 |0=>rfl
 |k+1=>by rw[wtU,List.length_append,wtU_len C l i L k];rfl
theorem wtU_wml(C:CR)(l:List Rd)(i:Nat)(L:List Sv):wtU C l i L L.length=wml C l i L L.length:=by
 have key:∀k,wtU C l i L k=(List.range k).map fun j=>wv C l i j (svAt L j):=by
  intro k
  induction k with
  |zero=>rfl
  |succ k ih=>rw[wtU,ih,List.range_succ,List.map_append];rfl
 rw[key]
 unfold wml
 apply List.map_congr_left;intro j hj;rw[if_pos (by simpa using hj)]
def sdU(C:CR)(l:List Rd)(i:Nat)(L:List Sv):Nat→Int
 |0=>0
 |k+1=>if(wv C l i k (svAt L k)).2.2 then sdU C l i L k else sdU C l i L k+1
theorem sdU_snd(C:CR)(l:List Rd)(i:Nat)(L:List Sv):sdU C l i L L.length=sndU (wml C l i L L.length) L.length:=by
 have key:∀k,k≤L.length→sdU C l i L k=sndU (wml C l i L L.length) k:=by
  intro k
  induction k with
  |zero=>intro _;rfl
  |succ k ih=>intro h;rw[sdU,sndU,ih (by omega),wml_get C l i L (by omega)]
 exact key _ (Nat.le_refl _)
theorem sdU_bd(C:CR)(l:List Rd)(i:Nat)(L:List Sv):∀k:Nat,0≤sdU C l i L k∧sdU C l i L k≤k
 |0=>by simp[sdU]
 |k+1=>by have:=sdU_bd C l i L k;simp only[sdU];split<;>omega
def wsU(C:CR)(S:FS)(l:List Rd)(sv:Nat→List Sv):Nat→Int
 |0=>0
 |i+1=>mxL (wsU C S l sv i) (lawI (Zq (bnI C S l i).o 3) (sdU C l i (sv i) (sv i).length) (C.a i 4))
theorem range3e{b:Nat}{x y:Value}(h0:Kc u b o x)(h1:Kc u b (o+1) y)(h2:Kc u b (o+2) z):u.rangeAt b o [x,y,z]:=fun j v hj=>by
 match j with
 |0=>simp at hj;subst hj;exact h0
 |1=>simp at hj;subst hj;exact h1
 |2=>simp at hj;subst hj;exact h2
 |j+3=>simp at hj
theorem upd_id{α:Type}{f:Nat→α}{v:α}(h:f i=v):upd f i v=f:=by
 funext j
 unfold upd
 split
 · rename_i e;rw[e,h]
 · rfl
theorem at_get(f:Nat→Int)(hi:i<2):[Vi (f 0),Vi (f 1)][i]?=some (Vi (f i)):=by
 rcases Qtw i with rfl|rfl<;>rfl
theorem N6(S:FS)(hi:i<2)(h:S.sp i=p∧S.sn i=n∧S.sc i=c):(stL S)[21+i]?=some (.slice p n c):=by rw[Wy S hi,h.1,h.2.1,h.2.2]
theorem Mr(ty:TypeId)(x y:Operand)(ho:op.op=.store ty x y)(b o:Nat)(cells:List Value)(hx:a.eval x=.pointer (some (Ad b o)))(hy:a.eval y=.agg cells.toArray)(ht:w.there b o cells.length)(hi:(P.info? ty).map (·.size)=some cells.length)(h1:cells.all (·.oneCell')=true)(hd:op.dst=none)(h:K a (w.setCells b o cells)):op.wp P a w K Q:=
 wp_store_mid ty x y ho b o cells.toArray hx hy (by simpa using ht) (by simpa using hi) (by simpa using h1) (by rw[hd];exact h)
def StX(w:World)(QS oS QA:Nat)(cs ds:List Value)(u:World):Prop:=Bw w u∧u.rangeAt QS oS cs∧u.rangeAt QA 0 ds
theorem StX.later(hb:Bw u u')(h:StX w QS oS QA cs ds u):StX w QS oS QA cs ds u':=⟨Zc h.1 hb,Zg h.2.1 hb,Zg h.2.2 hb⟩
theorem StX.put(hX:w.heap.size≤X∧QS≠X∧QA≠X)(vs:List Value)(o:Nat)(h:StX w QS oS QA cs ds u):StX w QS oS QA cs ds (u.setCells X o vs):=
 ⟨Zr vs o u h.1 hX.1,World.rangeAt_setCells_apart h.2.1 X o vs (.inl hX.2.1),World.rangeAt_setCells_apart h.2.2 X o vs (.inl hX.2.2)⟩
theorem StX.grew(hg:u.grownBy u' row)(hr:∀k,row=some k→w.heap.size≤k∧QS≠k∧QA≠k)(h:StX w QS oS QA cs ds u):StX w QS oS QA cs ds u':=
 ⟨h.1.grown hg h.1.size (fun k e=>(hr k e).1),fun j v hj=>hg.cell (h.2.1 j v hj) (fun e=>(hr _ e.symm).2.1 rfl),fun j v hj=>hg.cell (h.2.2 j v hj) (fun e=>(hr _ e.symm).2.2 rfl)⟩
theorem MvOK.congr{K:Nat}{wz:World}{S S':FS}{l:List Rd}{sv sv':Nat→List Sv}(h:MvOK K wz C S l sv i)(h1:S'.hd i=S.hd i)(h2:S'.n=S.n)(h3:sv' i=sv i):MvOK K wz C S' l sv' i:=
 ⟨by rw[h3];exact h.n1,by rw[h3];exact h.n4,h.m0,h.m1,h.mc,h.line,by rw[h3];exact h.ok,h.h4,h.h5,h.h3,h.h7,h.h6,by rw[h1,h2,h3];exact h.ho,by rw[h3];exact h.gm⟩
def hdX(C:CR)(S:FS)(l:List Rd)(sv:Nat→List Sv):Nat→Nat→Int×Int×Int
 |0=>S.hd
 |i+1=>upd (hdX C S l sv i) i (mvH C (sS2 C S l sv) l (vS1 C l sv) i)
def svX(C:CR)(S:FS)(l:List Rd)(sv:Nat→List Sv):Nat→Nat→List Sv
 |0=>vS1 C l sv
 |i+1=>upd (svX C S l sv i) i (mvS C (sS2 C S l sv) l (vS1 C l sv) i)
theorem hdX_at(C:CR)(S:FS)(l:List Rd)(sv:Nat→List Sv)(hi:i<2):hdX C S l sv i i=S.hd i:=by
 rcases Qtw i with rfl|rfl
 · rfl
 · show upd S.hd 0 _ 1=S.hd 1
   exact Yn _ _ (by omega)
theorem svX_at(C:CR)(S:FS)(l:List Rd)(sv:Nat→List Sv)(hi:i<2):svX C S l sv i i=vS1 C l sv i:=by
 rcases Qtw i with rfl|rfl
 · rfl
 · show upd (vS1 C l sv) 0 _ 1=vS1 C l sv 1
   exact Yn _ _ (by omega)
theorem vS3_at(C:CR)(S:FS)(l:List Rd)(sv:Nat→List Sv)(hi:i<2):vS3 C S l sv i=mvS C (sS2 C S l sv) l (vS1 C l sv) i:=by
 rcases Qtw i with rfl|rfl
 · show upd (upd _ 0 _) 1 _ 0=_
   rw[Yn _ _ (by omega),Zp]
 · show upd (upd _ 0 _) 1 _ 1=_
   rw[Zp]
theorem sS1_bk(C:CR)(S:FS)(l:List Rd)(hi:i<2):(sS1 C S l).bk i=bnI C S l i:=by
 rcases Qtw i with rfl|rfl<;>rfl
theorem sS2_bk(C:CR)(S:FS)(l:List Rd)(sv:Nat→List Sv)(hi:i<2):(sS2 C S l sv).bk i=bnI C S l i:=sS1_bk C S l hi
theorem sS2_bk2(C:CR)(S:FS)(l:List Rd)(sv:Nat→List Sv):(sS2 C S l sv).bk 2=b2I C S l:=rfl
theorem atX_two(C:CR)(S:FS)(l:List Rd)(hi:i<2):atX C S l 2 i=(bnI C S l i).l:=by
 rcases Qtw i with rfl|rfl
 · show upd (upd _ 0 _) 1 _ 0=_
   rw[Yn _ _ (by omega),Zp]
 · show upd (upd _ 0 _) 1 _ 1=_
   rw[Zp]
theorem wsU_law(C:CR)(S:FS)(ws:List Int)(sv:Nat→List Sv)(h:stE C S sv=0):
 (if decide ((smp (gat rdOf ws) 40 3).2=1) then wsU C S (gat rdOf ws) sv 2 else mxL S.n (wsU C S (gat rdOf ws) sv 2))=(sS2 C S (gat rdOf ws) sv).n:=by
 have e0:heM C (sS1 C S (gat rdOf ws)) (vS1 C (gat rdOf ws) sv) 0=(Zq (bnI C S (gat rdOf ws) 0).o 3,sdU C (gat rdOf ws) 0 (sv 0) (sv 0).length,C.a 0 4):=by
  unfold heM
  rw[sdU_snd,vS1_at C _ sv (by omega),Ws];have:(sS1 C S (gat rdOf ws)).bk 0=bnI C S (gat rdOf ws) 0:=sS1_bk C S _ (by omega);rw[this]
 have e1:heM C (sS1 C S (gat rdOf ws)) (vS1 C (gat rdOf ws) sv) 1=(Zq (bnI C S (gat rdOf ws) 1).o 3,sdU C (gat rdOf ws) 1 (sv 1) (sv 1).length,C.a 1 4):=by
  unfold heM
  rw[sdU_snd,vS1_at C _ sv (by omega),Ws];have:(sS1 C S (gat rdOf ws)).bk 1=bnI C S (gat rdOf ws) 1:=sS1_bk C S _ (by omega);rw[this]
 have h0:=he_ok (ws:=ws) h (i:=0) (by omega) (sS1 C S (gat rdOf ws));have h1:=he_ok (ws:=ws) h (i:=1) (by omega) (sS1 C S (gat rdOf ws))
 have hw:waI [heM C (sS1 C S (gat rdOf ws)) (vS1 C (gat rdOf ws) sv) 0,heM C (sS1 C S (gat rdOf ws)) (vS1 C (gat rdOf ws) sv) 1]=wsU C S (gat rdOf ws) sv 2:=by
  rw[waI_two h0 h1,e0,e1];rfl
 have hb:=waI_bd h0 h1;have hn:betw S.n 0 3=true:=clE_zero (show clE S.n=0 from(Yd h).2 0 (by omega))
 show _=lwM C (sS1 C S (gat rdOf ws)) (gat rdOf ws) (vS1 C (gat rdOf ws) sv)
 unfold lwM neI
 rw[hw] at hb⊢;rw[show(sS1 C S (gat rdOf ws)).n=S.n from rfl,hn,hb]
 rfl
theorem Wl(b:Nat):∀(vs:List Value) (o:Nat) (u:World),(u.setCells b o vs).heap.size=u.heap.size
 |[],_,_=>rfl
 |v::r,o,u=>(Wl b r (o+1) (u.setCell ⟨b,o,none⟩ v)).trans (World.size_setCell _ _ _)
def Av(w:World)(a:Option Addr)(l:List Rd)(QC QS QO QT QY:Nat)(T:FS)(m k:Nat):Prop:=
 w.heap.size≤k∧QC≠k∧QS≠k∧QO≠k∧QT≠k∧QY≠k∧(∀g,a=some (Ad g 0)→l≠[]→g≠k)∧∀j,j<m→∀G,T.sp j=some (Ad G 0)→G≠k
def zL:List Value:=Qaf
structure SP (w u:World) (C:CR) (S:FS) (a:Option Addr) (l:List Rd) (QC QS QO QT QY:Nat) (T:FS) (av:Nat→Int) (V:Nat→List Sv) (m:Nat):Prop where
 cr:Blk 29 u QC (crL C)
 st:Blk 41 u QS (stL S)
 out:Blk 41 u QO (stL T)
 atb:Blk 76 u QT [Vi (av 0),Vi (av 1)]
 yb:Blk 41 u QY zL
 rds:Rds u a l
 low:Bw w u
 bd:w.heap.size≤QO∧w.heap.size≤QT∧QC≠QO∧QS≠QO∧QC≠QT∧QS≠QT∧QO≠QT∧QY≠QO∧QY≠QT∧w.heap.size≤QY
 far:∀g,a=some (Ad g 0)→l≠[]→g≠QO∧g≠QT
 sv:∀j,j<m→∃G,T.sp j=some (Ad G 0)∧T.sn j=(V j).length∧VLs u (some (Ad G 0)) (V j)∧G<u.heap.size∧G≠QO∧G≠QT∧QY<G
section
variable {w u u' : World} {C : CR} {S : FS} {a : Option Addr} {l : List Rd} {QC QS QO QT QY : Nat} {T : FS} {av : Nat → Int} {V : Nat → List Sv} {m : Nat}
theorem SP.later(h:SP w u C S a l QC QS QO QT QY T av V m)(hb:Bw u u'):SP w u' C S a l QC QS QO QT QY T av V m:=
 ⟨h.cr.later hb,h.st.later hb,h.out.later hb,h.atb.later hb,h.yb.later hb,h.rds.later hb,Zc h.low hb,h.bd,h.far,fun j hj=>(h.sv j hj).elim fun G k=>⟨G,k.1,k.2.1,k.2.2.1.later hb,Nat.lt_of_lt_of_le k.2.2.2.1 hb.size,k.2.2.2.2⟩⟩
theorem SP.avoid(h:SP w u C S a l QC QS QO QT QY T av V m)(hk:u.heap.size≤k):Av w a l QC QS QO QT QY T m k:=by
 have h1:=h.cr.lt;have h2:=h.st.lt;have h3:=h.out.lt;have h4:=h.atb.lt;have h5:=h.low.size;have h6:=h.yb.lt;refine⟨by omega,by omega,by omega,by omega,by omega,by omega,fun g e hl=>?_,fun j hj G e=>?_⟩
 · have:=rds_lt h.rds g e hl;omega
 · obtain⟨G',e',_,_,hG,_⟩:=h.sv j hj;rw[e'] at e;simp only[Option.some.injEq,Addr.mk.injEq] at e
   omega
theorem Av.congr{T':FS}(h:Av w a l QC QS QO QT QY T m k)(hs:∀j,j<m→T'.sp j=T.sp j):Av w a l QC QS QO QT QY T' m k:=
 ⟨h.1,h.2.1,h.2.2.1,h.2.2.2.1,h.2.2.2.2.1,h.2.2.2.2.2.1,h.2.2.2.2.2.2.1,fun j hj G e=>h.2.2.2.2.2.2.2 j hj G ((hs j hj).symm.trans e)⟩
theorem SP.putO(h:SP w u C S a l QC QS QO QT QY T av V m)(T':FS)(vs:List Value)(o:Nat)(he:putL (stL T) o vs=stL T')(hs:∀j,j<m→T'.sp j=T.sp j∧T'.sn j=T.sn j):SP w (u.setCells QO o vs) C S a l QC QS QO QT QY T' av V m:=
 ⟨Blk.farCells h.bd.2.2.1 vs o u h.cr,Blk.farCells h.bd.2.2.2.1 vs o u h.st,he▸Blk.setCells vs o u _ h.out,Blk.farCells (fun e=>h.bd.2.2.2.2.2.2.1 e.symm) vs o u h.atb,Blk.farCells h.bd.2.2.2.2.2.2.2.1 vs o u h.yb,Xn (fun g e hl=>(h.far g e hl).1) vs o u h.rds,Zr vs o u h.low h.bd.1,h.bd,h.far,
  fun j hj=>(h.sv j hj).elim fun G k=>⟨G,(hs j hj).1.trans k.1,(hs j hj).2.trans k.2.1,Uf k.2.2.2.2.1 vs o k.2.2.1,by rw[Wl];exact k.2.2.2.1,k.2.2.2.2⟩⟩
theorem SP.putT(h:SP w u C S a l QC QS QO QT QY T av V m)(av':Nat→Int)(vs:List Value)(o:Nat)(he:putL [Vi (av 0),Vi (av 1)] o vs=[Vi (av' 0),Vi (av' 1)]):SP w (u.setCells QT o vs) C S a l QC QS QO QT QY T av' V m:=
 ⟨Blk.farCells h.bd.2.2.2.2.1 vs o u h.cr,Blk.farCells h.bd.2.2.2.2.2.1 vs o u h.st,Blk.farCells h.bd.2.2.2.2.2.2.1 vs o u h.out,he▸Blk.setCells vs o u _ h.atb,Blk.farCells h.bd.2.2.2.2.2.2.2.2.1 vs o u h.yb,Xn (fun g e hl=>(h.far g e hl).2) vs o u h.rds,Zr vs o u h.low h.bd.2.1,h.bd,h.far,
  fun j hj=>(h.sv j hj).elim fun G k=>⟨G,k.1,k.2.1,Uf k.2.2.2.2.2.1 vs o k.2.2.1,by rw[Wl];exact k.2.2.2.1,k.2.2.2.2⟩⟩
theorem SP.farCells(h:SP w u C S a l QC QS QO QT QY T av V m)(hX:Av w a l QC QS QO QT QY T m X)(vs:List Value)(o:Nat):SP w (u.setCells X o vs) C S a l QC QS QO QT QY T av V m:=
 ⟨Blk.farCells hX.2.1 vs o u h.cr,Blk.farCells hX.2.2.1 vs o u h.st,Blk.farCells hX.2.2.2.1 vs o u h.out,Blk.farCells hX.2.2.2.2.1 vs o u h.atb,Blk.farCells hX.2.2.2.2.2.1 vs o u h.yb,Xn hX.2.2.2.2.2.2.1 vs o u h.rds,Zr vs o u h.low hX.1,h.bd,h.far,
  fun j hj=>(h.sv j hj).elim fun G k=>⟨G,k.1,k.2.1,Uf (hX.2.2.2.2.2.2.2 j hj G k.1) vs o k.2.2.1,by rw[Wl];exact k.2.2.2.1,k.2.2.2.2⟩⟩
theorem SP.putS(h:SP w u C S a l QC QS QO QT QY T av V m)(hi:i<2)(g n c:Nat)(L:List Sv)(hn:n=L.length)(hv:VLs u (some (Ad g 0)) L)(hg:g<u.heap.size∧g≠QO∧g≠QT∧QY<g):
 SP w (u.setCells QO (21+i) [.slice (some (Ad g 0)) n c]) C S a l QC QS QO QT QY { T with sp:=upd T.sp i (some (Ad g 0)),sn:=upd T.sn i n,sc:=upd T.sc i c } av (upd V i L) m:=
 ⟨Blk.farCells h.bd.2.2.1 _ _ u h.cr,Blk.farCells h.bd.2.2.2.1 _ _ u h.st,st_putServo T hi (some (Ad g 0)) n c▸Blk.setCells [.slice (some (Ad g 0)) n c] (21+i) u _ h.out,Blk.farCells (fun e=>h.bd.2.2.2.2.2.2.1 e.symm) _ _ u h.atb,Blk.farCells h.bd.2.2.2.2.2.2.2.1 _ _ u h.yb,Xn (fun g e hl=>(h.far g e hl).1) _ _ u h.rds,Zr _ _ u h.low h.bd.1,h.bd,h.far,
  fun j hj=>by
   by_cases e:j=i
   · subst e;refine⟨g,Zp _ _ _,?_,?_,by rw[Wl];exact hg.1,hg.2⟩
     · show upd T.sn j n j=(upd V j L j).length
       rw[Zp,Zp,hn]
     · rw[Zp];exact Uf hg.2.1 _ _ hv
   · obtain⟨G,k⟩:=h.sv j hj;refine⟨G,?_,?_,?_,by rw[Wl];exact k.2.2.2.1,k.2.2.2.2⟩
     · show upd T.sp i _ j=_
       rw[Yn _ _ e];exact k.1
     · show upd T.sn i n j=(upd V i L j).length
       rw[Yn _ _ e,Yn _ _ e];exact k.2.1
     · rw[Yn _ _ e]
       exact Uf k.2.2.2.2.1 _ _ k.2.2.1⟩
theorem SP.servoAt(h:SP w u C S a l QC QS QO QT QY T av V m)(hi:i<m)(hp:T.sp i=some (Ad g 0))(hL:V i=L)(hk:k<L.length):u.cell? (Ad g (k*3))=some (Vi (svAt L k).1)∧u.cell? (Ad g (k*3+2))=some (.bool (svAt L k).2.2):=by
 obtain⟨G,g1,_,g3,_⟩:=h.sv i hi;rw[hp] at g1;rw[hL,←g1] at g3;obtain⟨b,off,e,c0,_,c2⟩:=g3.at hk;simp only[Option.some.injEq,Addr.mk.injEq] at e;obtain⟨rfl,rfl,_⟩:=e;rw[Nat.zero_add] at c0 c2;exact⟨c0,c2⟩
theorem Av.put{q:Nat}(h:Av w a l QC QS QO QT QY T m q)(hp:p=some (Ad g 0))(hg:q<g)(T':FS)(hT:T'.sp=upd T.sp i p):Av w a l QC QS QO QT QY T' m q:=
 ⟨h.1,h.2.1,h.2.2.1,h.2.2.2.1,h.2.2.2.2.1,h.2.2.2.2.2.1,h.2.2.2.2.2.2.1,fun j hj G e=>by
  rw[hT] at e
  by_cases ej:j=i
  · subst ej;rw[Zp,hp] at e;simp only[Option.some.injEq,Addr.mk.injEq] at e
    omega
  · rw[Yn _ _ ej] at e
    exact h.2.2.2.2.2.2.2 j hj G e⟩
theorem Blk.grew(h:Blk t u B cs)(hg:u.grownBy u' row)(hr:some B≠row):Blk t u' B cs:=(hg.block B h.lt hr).trans h
theorem vls_low(h:VLs u (some (Ad G 0)) L)(hl:1≤L.length):G<u.heap.size:=by
 obtain⟨b,off,e,c,_⟩:=h.at (k:=0) hl;simp only[Option.some.injEq,Addr.mk.injEq] at e;have:=World.block_lt_of_cell? u _ c
 simp at this
 omega
theorem ownc_far{P:Nat}{e:TypeId}:∀(vs:List Value) (o:Nat) {u:World},u.ownsRow base e size v n xs→some P≠v.ownBlock→(u.setCells P o vs).ownsRow base e size v n xs
 |[],_,_,h,_=>h
 |_::r,o,_,h,hP=>ownc_far r (o+1) (own_far h hP) hP
theorem rds_grown(h:Rds u a l)(hg:u.grownBy u' row)(hr:∀g,a=some (Ad g 0)→l≠[]→some g≠row):Rds u' a l:=by
 rcases h with h|⟨g,e,hc⟩
 · exact .inl h
 · refine .inr ⟨g,e,fun k hk=>?_⟩;have hn:=hr g e (fun h=>by subst h;simp at hk);have c:=hc k hk;exact⟨hg.cell c.1 hn,hg.cell c.2.1 hn,hg.cell c.2.2.1 hn,hg.cell c.2.2.2 hn⟩
theorem vls_grown(h:VLs u (some (Ad G 0)) L)(hg:u.grownBy u' row)(hr:some G≠row):VLs u' (some (Ad G 0)) L:=by
 rcases h with h|⟨b,off,e,hc⟩
 · exact .inl h
 · simp only[Option.some.injEq,Addr.mk.injEq] at e;obtain⟨rfl,rfl,_⟩:=e;exact .inr ⟨G,0,rfl,fun k hk=>⟨hg.cell (hc k hk).1 hr,hg.cell (hc k hk).2.1 hr,hg.cell (hc k hk).2.2 hr⟩⟩
theorem SP.grown(h:SP w u C S a l QC QS QO QT QY T av V m)(hg:u.grownBy u' row)(hr:∀k,row=some k→Av w a l QC QS QO QT QY T m k):SP w u' C S a l QC QS QO QT QY T av V m:=
 ⟨h.cr.grew hg (fun e=>(hr _ e.symm).2.1 rfl),h.st.grew hg (fun e=>(hr _ e.symm).2.2.1 rfl),h.out.grew hg (fun e=>(hr _ e.symm).2.2.2.1 rfl),h.atb.grew hg (fun e=>(hr _ e.symm).2.2.2.2.1 rfl),h.yb.grew hg (fun e=>(hr _ e.symm).2.2.2.2.2.1 rfl),rds_grown h.rds hg (fun g e hl e'=>(hr _ e'.symm).2.2.2.2.2.2.1 g e hl rfl),h.low.grown hg h.low.size (fun k e=>(hr k e).1),h.bd,h.far,
  fun j hj=>(h.sv j hj).elim fun G k=>⟨G,k.1,k.2.1,vls_grown k.2.2.1 hg (fun e=>(hr _ e.symm).2.2.2.2.2.2.2 j hj G k.1 rfl),Nat.lt_of_lt_of_le k.2.2.2.1 hg.size,k.2.2.2.2⟩⟩
end
theorem res_stepped(tmps:Array Value)(U:World)(Y:Nat)(cs:List Value)(x:Value)(h6:tmps.getD 6 undef=.pointer (some (Ad Y 0)))(h7:tmps.getD 7 undef=x)(hR:U.rangeAt Y 0 cs)(hn:cs.length=30):
 (results Tryz.f15 tmps).run prog U=.ok (.tuple #[.agg cs.toArray,x]) U:=by
 have h3:tmps[6]?.getD undef=.pointer (some (Ad Y 0)):=by simpa using h6
 have h4:tmps[7]?.getD undef=x:=by simpa using h7
 simp[results,results15,h3,h4,asAddr,run_loadVar_mid U Y 0 41 cs _ hR underlying41 rfl (by rw[Yk,hn])]
theorem rp_setX(R:Rp)(hi:i<2)(v:Int):(rpL R).set i (Vi v)=rpL { R with x:=upd R.x i v }:=by
 rcases Qtw i with rfl|rfl<;>rfl
theorem rp_setA(R:Rp)(hi:i<2)(hk:k<4)(v:Int):(rpL R).set (7+i*4+k) (Vi v)=rpL { R with a:=upd R.a i (upd (R.a i) k v) }:=by
 rcases Qtw i with rfl|rfl<;>rcases(show k=0∨k=1∨k=2∨k=3 by omega) with rfl|rfl|rfl|rfl<;>rfl
theorem rp_x(R:Rp)(hi:i<2):(rpL R)[i]?=some (Vi (R.x i)):=by rcases Qtw i with rfl|rfl<;>rfl
theorem rp_a(R:Rp)(hi:i<2)(hk:k<4):(rpL R)[7+i*4+k]?=some (Vi (R.a i k)):=by
 rcases Qtw i with rfl|rfl<;>rcases(show k=0∨k=1∨k=2∨k=3 by omega) with rfl|rfl|rfl|rfl<;>rfl
theorem rpL_ext{R R':Rp}(hx:∀i,i<2→R.x i=R'.x i∧R.l i=R'.l i∧R.s i=R'.s i∧∀k,k<4→R.a i k=R'.a i k)(hn:R.n=R'.n):rpL R=rpL R':=by
 obtain⟨a0,a1,a2,a3⟩:=hx 0 (by omega);obtain⟨b0,b1,b2,b3⟩:=hx 1 (by omega)
 unfold rpL
 rw[a0,a1,a2,b0,b1,b2,hn,a3 0 (by omega),a3 1 (by omega),a3 2 (by omega),a3 3 (by omega),b3 0 (by omega),b3 1 (by omega),b3 2 (by omega),b3 3 (by omega)]
theorem isLdT(t:TypeId)(x:Operand)(_ho:op.op=.load t x)(h:wpList P ops Q (op::rest) a w):wpList P ops Q (op::rest) a w:=h
def rpN(C:CR)(l:List Ft)(now:Int)(T:FS)(sv:Nat→List Sv)(R:Rp)(X:Stp):Rp:=
 ⟨fun i=>R.x i+plU C l now i (sv i) (C.a i 4).toNat+X.p i,fun i=>Zq (T.bk i).o 3,fun i=>sndU (sv i) (C.a i 4).toNat,T.n,fun i k=>if k<(C.a i 4).toNat then plc C l now i k (svAt (sv i) k) else R.a i k⟩
structure RBx (w u:World) (QC QS QR QX QO:Nat) (C:CR) (T:FS) (X:Stp) (R:Rp):Prop where
 c:Blk 29 u QC (crL C)
 s:Blk 41 u QS (stL T)
 r:Blk 95 u QR (rpL R)
 x:Blk 78 u QX (stpL X)
 o:u.there QO 0 15
 b:Bw w u
 n:QC≠QR∧QS≠QR∧QX≠QR∧QO≠QR∧w.heap.size≤QR∧w.heap.size≤QO
section
variable {w u u' : World} {QC QS QR QX QO : Nat} {C : CR} {T : FS} {X : Stp} {R R' : Rp}
theorem there_later(h:u.there B o n)(hb:Bw u u'):u'.there B o n:=fun j hj=>by
 have k:=h j hj;obtain⟨v,hv⟩:=Option.isSome_iff_exists.1 k.1;exact⟨by rw[cell_later hb hv];rfl,Yq hb hv k.2⟩
theorem there_far{V:Nat}(h:u.there B o n)(hV:B≠V)(j:Nat)(v:Value):(u.setCell (Ad V j) v).there B o n:=fun i hi=>by
 have k:=h i hi;have e:=heap_setCell_other u ⟨V,j,none⟩ B v hV
 unfold World.cell? World.frozen? at*
 simp only[e];exact k
theorem RBx.later(h:RBx w u QC QS QR QX QO C T X R)(hb:Bw u u'):RBx w u' QC QS QR QX QO C T X R:=
 ⟨h.c.later hb,h.s.later hb,h.r.later hb,h.x.later hb,there_later h.o hb,Zc h.b hb,h.n⟩
theorem RBx.cong(h:RBx w u QC QS QR QX QO C T X R)(e:rpL R=rpL R'):RBx w u QC QS QR QX QO C T X R':=⟨h.c,h.s,e▸h.r,h.x,h.o,h.b,h.n⟩
theorem RBx.set(h:RBx w u QC QS QR QX QO C T X R)(e:(rpL R).set j v=rpL R'):RBx w (u.setCell (Ad QR j) v) QC QS QR QX QO C T X R':=
 ⟨h.c.far h.n.1 j v,h.s.far h.n.2.1 j v,e▸h.r.set j v,h.x.far h.n.2.2.1 j v,there_far h.o h.n.2.2.2.1 j v,h.b.setCell (p:=⟨QR,j,none⟩) h.n.2.2.2.2.1 v,h.n⟩
end
theorem rb_new(w:World)(C:CR)(T:FS)(R:Rp)(X:Stp)(c:List Value)(hc:c.length=15):
 RBx w (((((w.alloc (.cells (crL C).toArray 29)).alloc (.cells (stL T).toArray 41)).alloc (.cells (rpL R).toArray 95)).alloc (.cells (stpL X).toArray 78)).alloc (.cells c.toArray 95)) w.heap.size (w.heap.size+1) (w.heap.size+1+1) (w.heap.size+1+1+1) (w.heap.size+1+1+1+1) C T X R:=by
 have h1:=Zb w (.cells (crL C).toArray 29);have b1:=Blk.new w 29 (crL C);have z1:=World.size_alloc w (.cells (crL C).toArray 29);generalize w.alloc (.cells (crL C).toArray 29)=w1 at *;have h2:=Zb w1 (.cells (stL T).toArray 41);have b2:=Blk.new w1 41 (stL T);have z2:=World.size_alloc w1 (.cells (stL T).toArray 41);generalize w1.alloc (.cells (stL T).toArray 41)=w2 at *;have h3:=Zb w2 (.cells (rpL R).toArray 95);have b3:=Blk.new w2 95 (rpL R);have z3:=World.size_alloc w2 (.cells (rpL R).toArray 95);generalize w2.alloc (.cells (rpL R).toArray 95)=w3 at *;have h4:=Zb w3 (.cells (stpL X).toArray 78);have b4:=Blk.new w3 78 (stpL X);have z4:=World.size_alloc w3 (.cells (stpL X).toArray 78);generalize w3.alloc (.cells (stpL X).toArray 78)=w4 at *;have h5:=Zb w4 (.cells c.toArray 95);have b5:=Blk.new w4 95 c;generalize w4.alloc (.cells c.toArray 95)=w5 at *;rw[z4] at b5;rw[z3] at b4 b5;rw[z2] at b3 b4 b5;rw[z1] at b2 b3 b4 b5;exact⟨(((b1.later h2).later h3).later h4).later h5,((b2.later h3).later h4).later h5,(b3.later h4).later h5,b4.later h5,b5.there (by omega),Zc (Zc (Zc (Zc h1 h2) h3) h4) h5,by omega⟩
theorem cr_tr(C:CR)(hi:i<2):(crL C)[i*15+5]?=some (Vi (C.a i 5)):=by
 rcases Qtw i with rfl|rfl<;>rfl
theorem plc_al(C:CR)(l:List Ft)(now:Int)(i k:Nat)(s:Sv)(hz:s.2.2=true→s.1=0)(h5:0≤C.a i 5∧C.a i 5≤1000):
 plc C l now i k s=if(ail l now i k true).isSome&&!s.2.2 then Ze (alC (ail l now i k true)).2.2.2.2 (-(C.a i 5)) (C.a i 5) else s.1:=by
 unfold plc
 cases h:s.2.2
 · cases ail l now i k true with
   |none=>rfl
   |some f=>
    show Ze f.2.2.2.2 (-(C.a i 5)) (C.a i 5)=Ze (Ze f.2.2.2.2 (-262143) 262143) (-(C.a i 5)) (C.a i 5)
    unfold Ze
    omega
 · cases ail l now i k true<;>simp[hz h]
theorem rplc_bd(C:CR)(l:List Ft)(now:Int)(i k:Nat)(s:Sv)(hs:-2000≤s.1∧s.1≤2000)(h5:0≤C.a i 5∧C.a i 5≤1000):-2000≤plc C l now i k s∧plc C l now i k s≤2000:=by
 unfold plc
 split
 · omega
 · split
   · unfold Ze;omega
   · exact hs
theorem rplU_bd{l:List Ft}{now:Int}(h:∀k,-2000≤plc C l now i k (svAt L k)∧plc C l now i k (svAt L k)≤2000):∀k:Nat,-(2000*(k:Int))≤plU C l now i L k∧plU C l now i L k≤2000*(k:Int)
 |0=>by simp[plU]
 |k+1=>by
  have a:=rplU_bd h k;have b:=h k;rw[plU]
  omega
structure RI (C:CR) (l:List Ft) (now:Int) (T:FS) (sv:Nat→List Sv) (R:Rp) (X:Stp) (i k:Nat) (Z:Rp):Prop where
 n:Z.n=T.n
 lo:∀j,j<2→j<i→Z.x j=(rpN C l now T sv R X).x j∧Z.l j=(rpN C l now T sv R X).l j∧Z.s j=(rpN C l now T sv R X).s j∧∀m,m<4→Z.a j m=(rpN C l now T sv R X).a j m
 hi:∀j,j<2→i<j→Z.x j=R.x j∧∀m,m<4→Z.a j m=R.a j m
 ix:i<2→Z.x i=R.x i+X.p i+plU C l now i (sv i) k∧Z.l i=Zq (T.bk i).o 3∧Z.s i=sndU (sv i) k∧∀m,m<4→Z.a i m=if m<k then plc C l now i m (svAt (sv i) m) else R.a i m
structure RJ (C:CR) (l:List Ft) (now:Int) (T:FS) (sv:Nat→List Sv) (R:Rp) (X:Stp) (i:Nat) (Z:Rp):Prop where
 n:Z.n=T.n
 lo:∀j,j<2→j<i→Z.x j=(rpN C l now T sv R X).x j∧Z.l j=(rpN C l now T sv R X).l j∧Z.s j=(rpN C l now T sv R X).s j∧∀m,m<4→Z.a j m=(rpN C l now T sv R X).a j m
 hi:∀j,j<2→i≤j→Z.x j=R.x j∧∀m,m<4→Z.a j m=R.a j m
section
variable {C : CR} {l : List Ft} {now : Int} {T : FS} {sv : Nat → List Sv} {R Z : Rp} {X : Stp} {i k : Nat}
theorem Wb{α:Type}(f:Nat→α)(v:α)(h:j≠i):upd f i v j=f j:=by simp[upd,h]
theorem RJ.zero:RJ C l now T sv R X 0 { R with n:=T.n }:=⟨rfl,fun _ _ h=>by omega,fun _ _ _=>⟨rfl,fun _ _=>rfl⟩⟩
theorem RJ.enter(h:RJ C l now T sv R X i Z)(hi:i<2):RI C l now T sv R X i 0 ⟨upd Z.x i (Z.x i+X.p i),upd Z.l i (Zq (T.bk i).o 3),upd Z.s i 0,Z.n,Z.a⟩:=by
 refine⟨h.n,fun j h1 h2=>?_,fun j h1 h2=>?_,fun _=>?_⟩
 · have e:j≠i:=by omega
   have:=h.lo j h1 h2;exact⟨by rw[←this.1];exact Wb _ _ e,by rw[←this.2.1];exact Wb _ _ e,by rw[←this.2.2.1];exact Wb _ _ e,this.2.2.2⟩
 · have:=h.hi j h1 (by omega);exact⟨by rw[←this.1];exact Wb _ _ (by omega),this.2⟩
 · have:=h.hi i hi (Nat.le_refl _);refine⟨?_,Zp _ _ _,Zp _ _ _,fun m hm=>by rw[if_neg (by omega)];exact this.2 m hm⟩
   show upd Z.x i (Z.x i+X.p i) i=_
   rw[Zp,this.1]
   simp[plU]
theorem RI.step(h:RI C l now T sv R X i k Z)(hi:i<2){s:Int}(hs:s=sndU (sv i) (k+1)){p:Int}(hp:p=plc C l now i k (svAt (sv i) k)):RI C l now T sv R X i (k+1) ⟨upd Z.x i (Z.x i+p),Z.l,upd Z.s i s,Z.n,upd Z.a i (upd (Z.a i) k p)⟩:=by
 obtain⟨e1,e2,e3,e4⟩:=h.ix hi;refine⟨h.n,fun j h1 h2=>?_,fun j h1 h2=>?_,fun _=>⟨?_,e2,?_,fun m hm=>?_⟩⟩
 · have e:j≠i:=by omega
   have:=h.lo j h1 h2;exact⟨by rw[←this.1];exact Wb _ _ e,this.2.1,by rw[←this.2.2.1];exact Wb _ _ e,fun m hm=>by rw[←this.2.2.2 m hm];exact congrFun (Wb _ _ e) m⟩
 · have e:j≠i:=by omega
   have:=h.hi j h1 h2;exact⟨by rw[←this.1];exact Wb _ _ e,fun m hm=>by rw[←this.2 m hm];exact congrFun (Wb _ _ e) m⟩
 · show upd Z.x i (Z.x i+p) i=_
   rw[Zp,e1,hp,plU]
   omega
 · exact(Zp _ _ _).trans hs
 · show upd Z.a i (upd (Z.a i) k p) i m=_
   rw[Zp]
   by_cases hk:m=k
   · subst hk;rw[Zp,if_pos (by omega),hp]
   · rw[Wb _ _ hk,e4 m hm]
     by_cases h2:m<k
     · rw[if_pos h2,if_pos (by omega)]
     · rw[if_neg h2,if_neg (by omega)]
theorem RI.leave(h:RI C l now T sv R X i k Z)(hk:(C.a i 4).toNat=k):RJ C l now T sv R X (i+1) Z:=by
 refine⟨h.n,fun j h1 h2=>?_,fun j h1 h2=>h.hi j h1 (by omega)⟩
 by_cases e:j=i
 · subst e;obtain⟨e1,e2,e3,e4⟩:=h.ix h1;subst hk;exact⟨by rw[e1];show _=R.x j+plU C l now j (sv j) (C.a j 4).toNat+X.p j;omega,e2,e3,e4⟩
 · exact h.lo j h1 (by omega)
theorem RJ.done(h:RJ C l now T sv R X 2 Z):rpL Z=rpL (rpN C l now T sv R X):=rpL_ext (fun i hi=>h.lo i hi hi) h.n
end
theorem res_reported(tmps:Array Value)(U:World)(Y:Nat)(cs:List Value)(h2:tmps.getD 12 undef=.pointer (some (Ad Y 0)))(hR:U.rangeAt Y 0 cs)(hn:cs.length=15):
 (results Tryz.f75 tmps).run prog U=.ok (.agg cs.toArray) U:=by
 have h3:tmps[12]?.getD undef=.pointer (some (Ad Y 0)):=by simpa using h2
 simp[results,results75,h3,asAddr,run_loadVar_mid U Y 0 95 cs _ hR underlying95 rfl (by rw[Xu,hn])]
theorem reported_any(C:CR)(pf:Option Addr)(cf:Nat)(l:List Ft)(T:FS)(sv:Nat→List Sv)(R:Rp)(X:Stp)(now:Int)(hl:l.length≤1000)(h4:∀i,i<2→2≤C.a i 4∧C.a i 4≤4)(h5:∀i,i<2→0≤C.a i 5∧C.a i 5≤1000)(hln:∀i,i<2→(sv i).length=(C.a i 4).toNat)(hz:∀i,i<2→∀k,(-2000≤(svAt (sv i) k).1∧(svAt (sv i) k).1≤2000)∧((svAt (sv i) k).2.2=true→(svAt (sv i) k).1=0))(hx:∀i,i<2→-10000000≤R.x i∧R.x i≤10000000)(hp:∀i,i<2→-1000≤X.p i∧X.p i≤1000)(w:World)(hv:SvL w T sv)(hf:Fts w pf l):
 Calls prog 75 #[.agg (crL C).toArray,.slice pf l.length cf,.agg (stL T).toArray,.agg (rpL R).toArray,.agg (stpL X).toArray,Vi now] w (Rt w (.agg (rpL (rpN C l now T sv R X)).toArray)):=by
 have Hu:=Za (fun u (h:Bw w u) (ax un:Int)=>ails_any pf cf l now ax un true hl u (hf.later h));have HV:=Za (fun u (h:Bw w u)=>hv.later h);have HZ:=Za hz;have Hv:=Za hln;have Hw:=Za hx;have Hx:=Za hp;have H4:=Za h4;have H5:=Za h5;have HR:=Za (rb_new w C T R X Qbg rfl);clear hv hf hz hln hx hp h4 h5
 go_enter func75,ntmps75
 go_upto_region 1 with fail;generalize ((((w.alloc _).alloc _).alloc _).alloc _).alloc _=v0 at *;generalize w.heap.size+1+1+1+1=QO at *;generalize w.heap.size+1+1+1=QX at *;generalize w.heap.size+1+1=QR at *;generalize w.heap.size+1=QS at *;generalize hQC:w.heap.size=QC at HR⊢;have xn:=(HR.out.s.cell (show(stL T)[29]?=some (Vi T.n) from rfl)).1;have yn:=HR.out.r.cell (show(rpL R)[6]?=some (Vi R.n) from rfl)
 go_upto_region 2 with fail;replace HR:=Za (HR.out.set (j:=6) (v:=Vi T.n) (R':={ R with n:=T.n }) rfl);clear xn yn;generalize v0.setCell _ _=v1 at*
 go_upto_region 3 with fail
 go_loopw [13] (fun ix wr=>∃(i:Nat) (Z:Rp),i≤2∧ix=Vi i∧RJ C l now T sv R X i Z∧RBx w wr QC QS QR QX QO C T X Z) (fun ix _=>2-(intOf ix).toNat)
 case atStart=>exact⟨0,_,by omega,rfl,RJ.zero,HR.out⟩
 case round=>
  clear HR;obtain⟨i,Z,hi2,rfl,hj,hr⟩:=hrel
  by_cases hi:i<2
  · have i0:(0:Int)≤(i:Int):=by omega
    have i1:(i:Int)<2:=by omega
    have i3:(i:Int)<3:=by omega
    have HJ:=Za hj;have HR:=Za hr;have Hi:=Za (hj.hi i hi (Nat.le_refl _)).1;clear hj hr;have Hk:Hid (wr.rangeAt QS (i*7) (bkL (T.bk i))):=Za (by have h:=HR.out.s.sub (i*7) 7;rw[st_bank T (show i<3 by omega)] at h;exact h);have hch:∀u,Calls prog 50 #[.agg (bkL (T.bk i)).toArray] u (Rt u (Vi (Zq (T.bk i).o 3))):=Zgp (T.bk i).b (T.bk i).o (T.bk i).l;have yl:=HR.out.r.cell (rp_l Z hi);have ys:=HR.out.r.cell (rp_s Z hi)
    go_upto_region 6 with(first
     |(refine Lm 33 (.tmp 30) rfl QS (i*7) (bkL (T.bk i)) Hk.out underlying33 Xd ?_)
     |(go_at_call 50;refine Sb (hch _) fun v2 hb=>?_;replace HR:=Za (HR.out.later hb);replace yl:_∧_:=⟨cell_later hb yl.1,Yq hb yl.1 yl.2⟩;replace ys:_∧_:=⟨cell_later hb ys.1,Yq hb ys.1 ys.2⟩;clear hb Hk))
    replace HR:=Za ((HR.out.set (rp_setL Z hi (Zq (T.bk i).o 3))).set (rp_setS _ hi 0));clear yl ys hch;generalize (v2.setCell _ _).setCell _ _=v3 at *;have HE:=Za (HJ.out.enter hi);have Hd:=Za (Hx.out i hi);have Hf:=Za (Hw.out i hi);have ex:=HR.out.r.cell (rp_x _ hi);have ep:=(HR.out.x.cell (stpp_at X hi)).1
    dsimp only at ex
    have wx:IntKind.i64.wrap (Z.x i+X.p i)=Z.x i+X.p i:=Xo (by have:=Hi.out;have:=Hd.out;have:=Hf.out;omega) (by have:=Hi.out;have:=Hd.out;have:=Hf.out;omega);refine Ct [37,38,39,40,41,42,43,44,45,46,47,48] ?_;refine Cp 0 37 [] ?_;refine Cp 1 38 [] ?_;refine Cp 2 39 [] ?_;refine Cp 3 40 [1,2] ?_;refine Cy (fun _ h=>cell_later h ex.1) 4 41 [3] ?_;refine Cp 5 42 [] ?_;refine Cp 6 43 [] ?_;refine Cp 7 44 [5,6] ?_;refine Cy (fun _ h=>cell_later h ep) 8 45 [7] ?_;refine Cp 9 46 [4,8] ?_;refine Cp 10 47 [] ?_;refine Cp 11 48 [0,10] ?_;refine Cn 1 13 [12] (fun y u hB _=>?_);refine Ra 12 (fun K hK=>?_);have e:=cell_later hB ex.1;have e1:=Yq hB ex.1 ex.2;go_simp;refine hK.out _ _ trivial (fun _=>?_);clear hK K;refine Dn ?_;replace HR:=Za ((HR.out.later hB).set (rp_setX _ hi (Z.x i+X.p i)))
    dsimp only at HR
    clear hB e e1 ex ep wx;generalize u.setCell _ _=v4 at *;go_simp;refine Ek ?_;generalize (⟨upd Z.x i (Z.x i+X.p i),upd Z.l i (Zq (T.bk i).o 3),upd Z.s i 0,Z.n,Z.a⟩:Rp)=Z1 at *;have HN:Hid (∃m:Nat,C.a i 4=(m:Int)∧(C.a i 4).toNat=m∧m≤4):=Za ⟨(C.a i 4).toNat,by have:=H4.out i hi;omega,rfl,by have:=H4.out i hi;omega⟩;obtain⟨m,hm,hmt,hm4⟩:=HN.out;have Hl:=Za hmt;clear HJ HN hmt Hi
    go_upto_region 8 with fail
    go_loopw [14] (fun ix wz=>∃(k:Nat) (Y:Rp),k≤m∧ix=Vi k∧RI C l now T sv R X i k Y∧RBx w wz QC QS QR QX QO C T X Y) (fun ix _=>m-(intOf ix).toNat)
    case atStart=>exact⟨0,Z1,by omega,rfl,HE.out,HR.out⟩
    case round=>
     clear HE HR;obtain⟨k,Y,hk,rfl,hj,hr⟩:=hrel;rename World=>wz;have xm:=(hr.c.cell (cr_su C hi)).1;rw[hm] at xm
     by_cases hlt:k<m
     · have k0:(0:Int)≤(k:Int):=by omega
       have k1:(k:Int)<(m:Int):=by omega
       have k4:(k:Int)<4:=by omega
       have HJ:=Za hj;have HR:=Za hr;have Hm:=Za (HV.out wz hr.b i hi)
       have hkl:k<(sv i).length:=by rw[Hv.out i hi,Hl.out];exact hlt
       obtain⟨b,off,esp,s0,s1,s2⟩:=Hm.out.2.2.at hkl;have Hg:=Za esp;have x21:=(hr.s.cell (Wy T hi)).1;rw[esp,Hm.out.1] at x21
       have kl:(k:Int)<((sv i).length:Int):=by omega
       have Hy:=Za (HZ.out i hi k);have Hb:=Za (plc_al C l now i k (svAt (sv i) k) (HZ.out i hi k).2 (H5.out i hi));have Hj:Hid (sndU (sv i) (k+1)=if(svAt (sv i) k).2.2 then sndU (sv i) k else sndU (sv i) k+1):=Za rfl;have Hn:=Za (rplc_bd C l now i k (svAt (sv i) k) (HZ.out i hi k).1 (H5.out i hi));have Ha:=Za (hj.ix hi);have Ho:=Za (rplU_bd (fun k=>rplc_bd C l now i k (svAt (sv i) k) (HZ.out i hi k).1 (H5.out i hi)) k);have Hp:=Za (sndU_bd (sv i) k);clear hj hr esp;generalize hsq:svAt (sv i) k=sq at *;have Hz:=Za hsq;clear hsq;obtain⟨pv,sb,so⟩:=sq
       dsimp only at s0 s1 s2 Hy Hb Hj Hn
       go_upto_region 11 with fail;have HA:=Zb wz (.cells #[Vi pv,Vi sb,.bool so] 116);have HX:Hid (Blk 116 (wz.alloc (.cells #[Vi pv,Vi sb,.bool so] 116)) wz.heap.size [Vi pv,Vi sb,.bool so]):=Za (Blk.new wz _ _);replace HR:=Za (HR.out.later HA);clear HA s0 s1 s2 x21 xm;generalize wz.alloc (.cells #[Vi pv,Vi sb,.bool so] 116)=v5 at *;generalize wz.heap.size=QV at HX⊢;have z0:=(HX.out.cell (j:=0) rfl).1
       go_upto_region 12 with fail;clear z0;have hai:=Hu.out v5 HR.out.b i k;generalize alC (ail l now i k true)=Fq at *;generalize (ail l now i k true).isSome=ok at *;obtain⟨fa,fk,fx,fu,fi⟩:=Fq
       unfold ftL at hai
       dsimp only at hai Hb
       go_upto_region 13 with(go_at_call 127;refine hai.mono ?_;rintro e v6 ⟨rfl,hb⟩;replace HR:=Za (HR.out.later hb);replace HX:=Za (HX.out.later hb);clear hb);have HA:=Zb v6 (.cells #[Vi fa,Vi fk,Vi fx,Vi fu,Vi fi] 73);have HF:Hid (Blk 73 (v6.alloc (.cells #[Vi fa,Vi fk,Vi fx,Vi fu,Vi fi] 73)) v6.heap.size [Vi fa,Vi fk,Vi fx,Vi fu,Vi fi]):=Za (Blk.new v6 _ _);replace HR:=Za (HR.out.later HA);replace HX:=Za (HX.out.later HA);clear HA hai;generalize v6.alloc (.cells #[Vi fa,Vi fk,Vi fx,Vi fu,Vi fi] 73)=v7 at *;generalize v6.heap.size=QF at HF⊢;have f4:=(HF.out.cell (j:=4) rfl).1;have z2:=(HX.out.cell (j:=2) rfl).1;have xt:=(HR.out.c.cell (cr_tr C hi)).1;have hT:=H5.out i hi;have hcl:=Yr fi (-(C.a i 5)) (C.a i 5) (by omega);have wn:=Wr (-(C.a i 5));have ys:=HR.out.r.cell (rp_s Y hi);have wy:IntKind.i64.wrap (Y.s i+1)=Y.s i+1:=Xo (by have:=Ha.out.2.2.1;have:=Hp.out;omega) (by have:=Ha.out.2.2.1;have:=Hp.out;omega)
       cases so<;>cases ok
       case' false.true=>
        go_upto_region 14 with fail;refine Cs [81,82,83,84,85,86,87,88,89,90,91,92,93,94,16] ?_;refine Cp 0 81 [] ?_;refine Cq (fun _ h=>cell_later h f4) 1 82 [0] ?_;refine Cp 2 83 [] ?_;refine Cp 3 84 [] ?_;refine Cp 4 85 [2,3] ?_;refine Cp 5 86 [4] ?_;refine Cq (fun _ h=>cell_later h xt) 6 87 [5] ?_;refine Cp 7 88 [6] ?_;refine Cp 8 89 [] ?_;refine Cp 9 90 [] ?_;refine Cp 10 91 [8,9] ?_;refine Cp 11 92 [10] ?_;refine Cq (fun _ h=>cell_later h xt) 12 93 [11] ?_;refine Cc 13 94 [1,7,12] (fun y w h _=>Z8 (hcl _)) ?_;refine Cp 14 16 [13] ?_;refine Ce (fun y u1 hB hf=>?_);have Hq:=Za hB;clear hB hf;go_simp;have hB:=Hq.out;clear Hq;replace HR:=Za (HR.out.later hB);replace ys:_∧_:=⟨cell_later hB ys.1,Yq hB ys.1 ys.2⟩;replace z2:=cell_later hB z2;clear hB;generalize u1=v7 at *;refine Ek ?_;have Hh:Hid (plc C l now i k (pv,sb,false)=Ze fi (-(C.a i 5)) (C.a i 5)):=Za (by rw[Hb.out];rfl);generalize Ze fi (-(C.a i 5)) (C.a i 5)=pv at*
       case' false.false=>
        have Hh:Hid (plc C l now i k (pv,sb,false)=pv):=Za (by rw[Hb.out];rfl)
       case' false.true|false.false=>
        go_upto_region 17 with fail;replace HR:=Za (HR.out.set (rp_setS Y hi (Y.s i+1)));have Hg:Hid (Y.s i+1=sndU (sv i) (k+1)):=Za (by rw[Hj.out,Ha.out.2.2.1];rfl);generalize v7.setCell _ _=v7 at *;rw[Hg.out] at HR
       case' true.true|true.false=>
        go_upto_region 17 with fail;have Hg:Hid (Y.s i=sndU (sv i) (k+1)):=Za (by rw[Hj.out,Ha.out.2.2.1];rfl);replace HR:=Za (HR.out.cong (R':={ Y with s:=upd Y.s i (sndU (sv i) (k+1)) }) (by rw[upd_id Hg.out]));have Hh:Hid (plc C l now i k (pv,sb,true)=pv):=Za (by rw[Hb.out];rfl)
       all_goals
        clear f4 z2 xt hcl wn ys wy HF HX hT;have HC:=Za (HJ.out.step hi (s:=sndU (sv i) (k+1)) rfl (p:=pv) (by rw[Hz.out];exact Hh.out.symm));have Hr:Hid (-2000≤pv∧pv≤2000):=Za (by have:=Hn.out;rw[Hh.out] at this;exact this);have ya:=HR.out.r.cell (rp_a _ hi (show k<4 by omega))
        go_upto_region 18 with fail;replace HR:=Za (HR.out.set (rp_setA _ hi (show k<4 by omega) pv))
        dsimp only at HR
        clear ya;generalize v7.setCell _ _=v8 at *;have ex:=HR.out.r.cell (rp_x _ hi)
        dsimp only at ex
        have wx:IntKind.i64.wrap (Y.x i+pv)=Y.x i+pv:=Xo (by have:=Ha.out.1;have:=Ho.out;have:=Hr.out;have:=Hd.out;have:=Hf.out;omega) (by have:=Ha.out.1;have:=Ho.out;have:=Hr.out;have:=Hd.out;have:=Hf.out;omega);go_wp2_with fail;replace HR:=Za (HR.out.set (rp_setX _ hi (Y.x i+pv)));go_roundw
        case rel=>exact⟨k+1,_,by omega,by go_num,HC.out,HR.out⟩
        case measure=>simp[intOf];omega
     · obtain rfl:k=m:=by omega
       have HJ:=Za (hj.leave Hl.out);have HR:=Za hr;clear hj hr;go_wp2_with fail;go_roundw
       case rel=>exact⟨i+1,_,by omega,by go_num,HJ.out,HR.out⟩
       case measure=>simp[intOf];omega
  · obtain rfl:i=2:=by omega
    have HE:=Za hj.done;have HD:=Za hr.r;have HO:=Za hr.o;have HB:=Za hr.b;have HN:=Za hr.n.2.2.2.2.2;clear hj hr;generalize Hs:rpL Z=cs at *;have Hc:Hid (cs.length=15∧cs.toArray.all (·.oneCell')=true):=Za (by rw[←Hs];exact⟨rfl,Zn _ rfl⟩);have Ht:Hid (wr.there QO 0 cs.length):=Za (by rw[Hc.out.1];exact HO.out);clear Hs
    go_wp2_with (first
     |(refine Lm 95 (.tmp 9) rfl QR 0 cs HD.out.range underlying95 (by rw[Xu,Hc.out.1]) ?_)
     |(refine Sq 95 _ _ rfl ?_;refine wpList_store_mid rfl 95 (.tmp 12) (.tmp 120) rfl QO 0 cs.toArray rfl rfl (by simpa using Ht.out) (by rw[Xu];simp[Hc.out.1]) Hc.out.2 ?_))
    exact bodyPost_ret (v:=.agg cs.toArray) (res_reported _ _ QO cs rfl (World.rangeAt_setCells_same _ _ _ _ Ht.out) Hc.out.1) rfl ⟨by rw[HE.out],Zr cs 0 wr HB.out HN.out⟩
theorem wp_ap{o:Oper}{s:Value}{e:Nat}{i:TypeInfo}{bytes:Nat}(sO xO:Operand)(ho:o.op=.call { callee:=.builtin .append,args:=#[sO,xO],argTypes:=#[t,t] })(ht:P.underlying t=some (.slice e))(hi:P.info? e=some i)(hz:i.zero=some z)(hsize:i.size=size)(hby:i.bytes=bytes){m:Nat}{ys:List Value}(hx:a.eval xO=.slice p m c)(hown:u.ownsRow base e size s n xs)(hy:Lay u p ys)(hl:ys.length=m*size)(h1:∀v∈ys,v.oneCell'=true)(hm:n+m≤maxLen)(hbytes:(n+m)*bytes≤140737488355328)(hbase:base≤u.heap.size)(h:∀s' u',u'.ownsRow base e size s' (n+m) (xs++ys)→u.grownBy u' s.ownBlock→K (a.put o.dst s') u')(hsz:0<size:=by decide)(hzs:z.cells.size=size:=by rfl)(hs:a.eval sO=s:=by rfl):o.wp P a u K Q:=by
 by_cases h0:m=0
 · subst h0
   have hys:ys=[]:=by simpa using hl
   subst hys
   unfold Oper.wp execOp
   simp only[ho,resolve,invoke,builtin,Sem.run_bind,Sem.run_pure,Result.andThen_ok,List.map_toArray,List.map_cons,List.map_nil,hs,hx,Zgu ht hi hown p c];exact h s u (by simpa using hown) (World.grownBy.refl _ _)
 · have hm':0<m:=by omega
   rcases hy with hy|⟨g,off,rfl,hr⟩
   · subst hy;have:0<m*size:=Nat.mul_pos hm' hsz
     simp at hl
     omega
   · exact wp_append_lies u sO xO t ho base e i z size bytes ht hi hz hsize hby hzs hsz s n xs hs hown ⟨g,off,none⟩ m c ys hx hl (fun j v hj=>by rw[Addr.add_lit];exact hr j v hj) h1 hm' hm hbytes hbase _ rfl
      (fun g' cap w' h2 h3 _ _=>h _ _ h2 h3)
def WOw(v0 u:World)(s:Value)(rs:List Rd):Prop:=WdO v0.heap.size u s (rs.map pk1)∧Bw v0 u
section
variable {v0 u u' : World} {s : Value} {rs ns : List Rd}
theorem WOw.nil(v0:World):WOw v0 v0 (.slice none 0 0) []:=⟨RwO.nil _ _ _ _ _,Below.refl _ _⟩
theorem WOw.later(h:WOw v0 u s rs)(hb:Bw u u'):WOw v0 u' s rs:=⟨h.1.later hb,Zc h.2 hb⟩
theorem wdL_all(l:List Int):∀v∈l.flatMap wdL,v.oneCell'=true:=fun v hv=>by
 obtain⟨x,_,hx⟩:=List.mem_flatMap.1 hv;exact wdL_one x v hx
theorem wdL_len(l:List Int):(l.flatMap wdL).length=l.length:=by
 induction l with
 |nil=>rfl
 |cons x r ih=>rw[List.flatMap_cons,List.length_append,ih];simp[wdL];omega
theorem WOw.app(h:WOw v0 u s rs){s':Value}(h1:u'.ownsRow v0.heap.size 136 1 s' ((rs.map pk1).length+ns.length) ((rs.map pk1).flatMap wdL++(ns.map pk1).flatMap wdL))(h2:u.grownBy u' s.ownBlock):WOw v0 u' s' (rs++ns):=by
 refine⟨?_,h.2.grown h2 h.2.size (fun k hk=>(World.ownsRow.lt h.1 k hk).1)⟩
 unfold WdO RwO
 rw[List.map_append,List.length_append,List.flatMap_append,show(ns.map pk1).length=ns.length by simp];exact h1
theorem N7{o:Oper}(sO xO:Operand)(ho:o.op=.call { callee:=.builtin .append,args:=#[sO,xO],argTypes:=#[42,42] })(hx:a.eval xO=.slice p ns.length c)(hown:WOw v0 u s rs)(hy:Lay u p ((ns.map pk1).flatMap wdL))(hm:rs.length+ns.length≤1000)(h:∀s' u',WOw v0 u' s' (rs++ns)→wpList prog ops Q rest (a.put o.dst s') u')(hgd:o.guard=none:=by rfl)(hs:a.eval sO=s:=by rfl):wpList prog ops Q (o::rest) a u:=by
 obtain⟨i0,hi4,hz0,hz1,hz2⟩:=info_parts infoU32;exact Na sO xO ho wds_under hi4 hz0 hz1 hz2 hx hown.1 hy (by rw[wdL_len];simp) (wdL_all _) (by unfold maxLen;simp;omega) (by simp;omega) hown.2.size (fun s' u' h1 h2=>h s' u' (hown.app h1 h2)) (by decide) rfl hgd hs
theorem wp_apV{o:Oper}(sO xO:Operand)(ho:o.op=.call { callee:=.builtin .append,args:=#[sO,xO],argTypes:=#[42,42] })(hx:a.eval xO=.slice p ns.length c)(hown:WOw v0 u s rs)(hy:Lay u p ((ns.map pk1).flatMap wdL))(hm:rs.length+ns.length≤1000)(h:∀s' u',WOw v0 u' s' (rs++ns)→K (a.put o.dst s') u')(hs:a.eval sO=s:=by rfl):o.wp prog a u K Q:=by
 obtain⟨i0,hi4,hz0,hz1,hz2⟩:=info_parts infoU32;exact wp_ap sO xO ho wds_under hi4 hz0 hz1 hz2 hx hown.1 hy (by rw[wdL_len];simp) (wdL_all _) (by unfold maxLen;simp;omega) (by simp;omega) hown.2.size (fun s' u' h1 h2=>h s' u' (hown.app h1 h2)) (by decide) rfl hs
theorem lay_w1(w:World)(r:Rd):Lay (w.alloc (.cells #[.int .u32 (pk1 r)] 136)) (some (Ad w.heap.size 0)) (([r].map pk1).flatMap wdL):=lay_wd w (pk1 r)
end
end Go.Proofs.YtnfdfiholcelaaaGreatDoor
