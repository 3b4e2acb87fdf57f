
import Derived.Test.YtnepnnkdgejheaaGreatDoorKp36
import Derived.Test.YtnepnnkdgejheaaGreatDoorKp37
import Derived.Test.YtnepnnkdgejheaaGreatDoorKp40
set_option maxRecDepth 100000
set_option maxHeartbeats 20000000
namespace Go.Proofs.YtnepnnkdgejheaaGreatDoor
open Go.RowKit Plain Tryz
variable {B i j k n o:Nat}{u:V6}
theorem Jcd(R:Rp)(hi:i<2)(v:Int):(rpL R).set i (Vi v)=rpL { R with x:=upd R.x i v }:=by
 rcases Qtw i with rfl|rfl<;>rfl
theorem Jm7(R:Rp)(hi:i<2)(hk:k<4)(v:Int):(rpL R).set (7+i*4+k) (Vi v)=rpL { R with a:=upd R.a i (upd (R.a i) k v) }:=by
 rcases Qtw i with rfl|rfl<;>rcases(show k=0\/k=1\/k=2\/k=3 by omega) with rfl|rfl|rfl|rfl<;>rfl
theorem Jjj(R:Rp)(hi:i<2):(rpL R)[i]?=some (Vi (R.x i)):=by rcases Qtw i with rfl|rfl<;>rfl
theorem Jr6(R:Rp)(hi:i<2)(hk:k<4):(rpL R)[7+i*4+k]?=some (Vi (R.a i k)):=by
 rcases Qtw i with rfl|rfl<;>rcases(show k=0\/k=1\/k=2\/k=3 by omega) with rfl|rfl|rfl|rfl<;>rfl
theorem Jce{R R':Rp}(hx:∀i,i<2->R.x i=R'.x i/\R.l i=R'.l i/\R.s i=R'.s i/\∀k,k<4->R.a i k=R'.a i k)(hn:R.n=R'.n):rpL R=rpL R':=by
 obtain⟨j,m,e,h⟩:=hx 0 (by omega);obtain⟨H,Y,Q,y⟩:=hx 1 (by omega)
 unfold rpL
 rw[j,m,e,H,Y,Q,hn,h 0 (by omega),h 1 (by omega),h 2 (by omega),h 3 (by omega),y 0 (by omega),y 1 (by omega),y 2 (by omega),y 3 (by omega)]
theorem EM{P:Program}{ops:Array Oper}{rest:List Oper}{op:Oper}{a:Act}{w:V6}{Q:Exit->Act->World->Prop}(t:TypeId)(x:Operand)(_ho:op.op=.load t x)(h:wpList P ops Q (op::rest) a w):wpList P ops Q (op::rest) a w:=h
def rpN(C:CR)(l:List Ft)(now:Int)(T:FS)(sv:Nat->List Sv)(R:Rp)(X:Stp):Rp:=
 ⟨fun i=>R.x i+plU C l now i (sv i) (C.a i 4).toNat+X.p i,fun i=>Zt (T.bk i).o 3,fun i=>AI (sv i) (C.a i 4).toNat,T.n,fun i k=>if k<(C.a i 4).toNat then plc C l now i k (A0 (sv i) k) else R.a i k⟩
structure RBx (w u:V6) (QC QS QR QX QO:Nat) (C:CR) (T:FS) (X:Stp) (R:Rp):Prop where
 c:Blk 41 u QC (crL C)
 s:Blk 110 u QS (stL T)
 r:Blk 75 u QR (rpL R)
 x:Blk 70 u QX (A6 X)
 o:u.there QO 0 15
 b:Bw w u
 n:QC≠QR/\QS≠QR/\QX≠QR/\QO≠QR/\w.heap.size<=QR/\w.heap.size<=QO
section
variable {w u u' : World} {QC QS QR QX QO : Nat} {C : CR} {T : FS} {X : Stp} {R R' : Rp}
theorem VF{u':V6}(h:u.there B o n)(y:Bw u u'):u'.there B o n:=fun j e=>by
 have k:=h j e;obtain⟨v,m⟩:=Option.isSome_iff_exists.1 k.1;exact⟨by rw[cell_later y m];rfl,Yw y m k.2⟩
theorem Jew{V:Nat}(h:u.there B o n)(y:B≠V)(j:Nat)(v:Value):(u.setCell (Ad V j) v).there B o n:=fun i hi=>by
 have k:=h i hi;have e:=heap_setCell_other u ⟨V,j,none⟩ B v y
 unfold World.cell? World.frozen? at*
 simp only[e];exact k
theorem RBx.lq(h:RBx w u QC QS QR QX QO C T X R)(y:Bw u u'):RBx w u' QC QS QR QX QO C T X R:=
 ⟨h.c.lq y,h.s.lq y,h.r.lq y,h.x.lq y,VF h.o y,Zc h.b y,h.n⟩
theorem RBx.cong(h:RBx w u QC QS QR QX QO C T X R)(e:rpL R=rpL R'):RBx w u QC QS QR QX QO C T X R':=⟨h.c,h.s,e▸h.r,h.x,h.o,h.b,h.n⟩
theorem RBx.set(h:RBx w u QC QS QR QX QO C T X R){v:Value}(e:(rpL R).set j v=rpL R'):RBx w (u.setCell (Ad QR j) v) QC QS QR QX QO C T X R':=
 ⟨h.c.far h.n.1 j v,h.s.far h.n.2.1 j v,e▸h.r.set j v,h.x.far h.n.2.2.1 j v,Jew h.o h.n.2.2.2.1 j v,h.b.setCell (p:=⟨QR,j,none⟩) h.n.2.2.2.2.1 v,h.n⟩
end
theorem Jqe(w:V6)(C:CR)(T:FS)(R:Rp)(X:Stp)(c:List Value)(hc:c.length=15):
 RBx w (((((w.alloc (.cells (crL C).toArray 41)).alloc (.cells (stL T).toArray 110)).alloc (.cells (rpL R).toArray 75)).alloc (.cells (A6 X).toArray 70)).alloc (.cells c.toArray 75)) w.heap.size (w.heap.size+1) (w.heap.size+1+1) (w.heap.size+1+1+1) (w.heap.size+1+1+1+1) C T X R:=by
 have h1:=Zb w (.cells (crL C).toArray 41);have G:=Blk.new w 41 (crL C);have J:=World.size_alloc w (.cells (crL C).toArray 41);generalize w.alloc (.cells (crL C).toArray 41)=y at *;have h2:=Zb y (.cells (stL T).toArray 110);have Q:=Blk.new y 110 (stL T);have K:=World.size_alloc y (.cells (stL T).toArray 110);generalize y.alloc (.cells (stL T).toArray 110)=j at *;have h3:=Zb j (.cells (rpL R).toArray 75);have H:=Blk.new j 75 (rpL R);have M:=World.size_alloc j (.cells (rpL R).toArray 75);generalize j.alloc (.cells (rpL R).toArray 75)=m at *;have h4:=Zb m (.cells (A6 X).toArray 70);have e:=Blk.new m 70 (A6 X);have N:=World.size_alloc m (.cells (A6 X).toArray 70);generalize m.alloc (.cells (A6 X).toArray 70)=Y at *;have h5:=Zb Y (.cells c.toArray 75);have h:=Blk.new Y 75 c;generalize Y.alloc (.cells c.toArray 75)=w5 at *;rw[N] at h;rw[M] at e h;rw[K] at H e h;rw[J] at Q H e h;exact⟨(((G.lq h2).lq h3).lq h4).lq h5,((Q.lq h3).lq h4).lq h5,(H.lq h4).lq h5,e.lq h5,h.there (by omega),Zc (Zc (Zc (Zc h1 h2) h3) h4) h5,by omega⟩
theorem Jr7(C:CR)(hi:i<2):(crL C)[i*15+5]?=some (Vi (C.a i 5)):=by
 rcases Qtw i with rfl|rfl<;>rfl
theorem Jqf(s:Stp)(hi:i<2):(A6 s)[2+i]?=some (Vi (s.p i)):=by rcases Qtw i with rfl|rfl<;>rfl
theorem Jqg(C:CR)(l:List Ft)(now:Int)(i k:Nat)(s:Sv)(y:s.2.2=true->s.1=0)(h5:0<=C.a i 5/\C.a i 5<=1000):
 plc C l now i k s=if(ail l now i k true).isSome&&!s.2.2 then Ze (alC (ail l now i k true)).2.2.2.2 (-(C.a i 5)) (C.a i 5) else s.1:=by
 unfold plc
 cases h:s.2.2
 . cases ail l now i k true with
   |none=>rfl
   |some f=>
    show Ze f.2.2.2.2 (-(C.a i 5)) (C.a i 5)=Ze (Ze f.2.2.2.2 (-262143) 262143) (-(C.a i 5)) (C.a i 5)
    unfold Ze
    omega
 . cases ail l now i k true<;>simp[y h]
theorem Jcf(C:CR)(l:List Ft)(now:Int)(i k:Nat)(s:Sv)(hs:-2000<=s.1/\s.1<=2000)(h5:0<=C.a i 5/\C.a i 5<=1000):-2000<=plc C l now i k s/\plc C l now i k s<=2000:=by
 unfold plc
 split
 . omega
 . split
   . unfold Ze;omega
   . exact hs
theorem Jcg{C:CR}{l:List Ft}{now:Int}{L:List Sv}(h:∀k,-2000<=plc C l now i k (A0 L k)/\plc C l now i k (A0 L k)<=2000):∀k:Nat,-(2000*(k:Int))<=plU C l now i L k/\plU C l now i L k<=2000*(k:Int)
 |0=>by simp[plU]
 |k+1=>by
  have a:=Jcg h k;have b:=h k;rw[plU]
  omega
structure RI (C:CR) (l:List Ft) (now:Int) (T:FS) (sv:Nat->List Sv) (R:Rp) (X:Stp) (i k:Nat) (Z:Rp):Prop where
 n:Z.n=T.n
 lo:∀j,j<2->j<i->Z.x j=(rpN C l now T sv R X).x j/\Z.l j=(rpN C l now T sv R X).l j/\Z.s j=(rpN C l now T sv R X).s j/\∀m,m<4->Z.a j m=(rpN C l now T sv R X).a j m
 hi:∀j,j<2->i<j->Z.x j=R.x j/\∀m,m<4->Z.a j m=R.a j m
 ix:i<2->Z.x i=R.x i+X.p i+plU C l now i (sv i) k/\Z.l i=Zt (T.bk i).o 3/\Z.s i=AI (sv i) k/\∀m,m<4->Z.a i m=if m<k then plc C l now i m (A0 (sv i) m) else R.a i m
structure RJ (C:CR) (l:List Ft) (now:Int) (T:FS) (sv:Nat->List Sv) (R:Rp) (X:Stp) (i:Nat) (Z:Rp):Prop where
 n:Z.n=T.n
 lo:∀j,j<2->j<i->Z.x j=(rpN C l now T sv R X).x j/\Z.l j=(rpN C l now T sv R X).l j/\Z.s j=(rpN C l now T sv R X).s j/\∀m,m<4->Z.a j m=(rpN C l now T sv R X).a j m
 hi:∀j,j<2->i<=j->Z.x j=R.x j/\∀m,m<4->Z.a j m=R.a j m
section
variable {C : CR} {l : List Ft} {now : Int} {T : FS} {sv : Nat -> List Sv} {R Z : Rp} {X : Stp} {i k : Nat}
theorem Wq{α:Type}(f:Nat->α)(v:α)(h:j≠i):upd f i v j=f j:=by simp[upd,h]
theorem RJ.zero:RJ C l now T sv R X 0 { R with n:=T.n }:=⟨rfl,fun _ _ h=>by omega,fun _ _ _=>⟨rfl,fun _ _=>rfl⟩⟩
theorem RJ.enter(h:RJ C l now T sv R X i Z)(hi:i<2):RI C l now T sv R X i 0 ⟨upd Z.x i (Z.x i+X.p i),upd Z.l i (Zt (T.bk i).o 3),upd Z.s i 0,Z.n,Z.a⟩:=by
 refine⟨h.n,fun j h1 h2=>?_,fun j h1 h2=>?_,fun _=>?_⟩
 . have e:j≠i:=by omega
   have:=h.lo j h1 h2;exact⟨by rw[<-this.1];exact Wq _ _ e,by rw[<-this.2.1];exact Wq _ _ e,by rw[<-this.2.2.1];exact Wq _ _ e,this.2.2.2⟩
 . have:=h.hi j h1 (by omega);exact⟨by rw[<-this.1];exact Wq _ _ (by omega),this.2⟩
 . have:=h.hi i hi (Nat.le_refl _);refine⟨?_,Zs _ _ _,Zs _ _ _,fun m y=>by rw[if_neg (by omega)];exact this.2 m y⟩
   show upd Z.x i (Z.x i+X.p i) i=_
   rw[Zs,this.1]
   simp[plU]
theorem RI.step(h:RI C l now T sv R X i k Z)(hi:i<2){s:Int}(hs:s=AI (sv i) (k+1)){p:Int}(H:p=plc C l now i k (A0 (sv i) k)):RI C l now T sv R X i (k+1) ⟨upd Z.x i (Z.x i+p),Z.l,upd Z.s i s,Z.n,upd Z.a i (upd (Z.a i) k p)⟩:=by
 obtain⟨Y,Q,J,G⟩:=h.ix hi;refine⟨h.n,fun j h1 h2=>?_,fun j h1 h2=>?_,fun _=>⟨?_,Q,?_,fun m y=>?_⟩⟩
 . have e:j≠i:=by omega
   have:=h.lo j h1 h2;exact⟨by rw[<-this.1];exact Wq _ _ e,this.2.1,by rw[<-this.2.2.1];exact Wq _ _ e,fun m y=>by rw[<-this.2.2.2 m y];exact congrFun (Wq _ _ e) m⟩
 . have e:j≠i:=by omega
   have:=h.hi j h1 h2;exact⟨by rw[<-this.1];exact Wq _ _ e,fun m y=>by rw[<-this.2 m y];exact congrFun (Wq _ _ e) m⟩
 . show upd Z.x i (Z.x i+p) i=_
   rw[Zs,Y,H,plU]
   omega
 . exact(Zs _ _ _).trans hs
 . show upd Z.a i (upd (Z.a i) k p) i m=_
   rw[Zs]
   by_cases hk:m=k
   . subst hk;rw[Zs,if_pos (by omega),H]
   . rw[Wq _ _ hk,G m y]
     by_cases h2:m<k
     . rw[if_pos h2,if_pos (by omega)]
     . rw[if_neg h2,if_neg (by omega)]
theorem RI.leave(h:RI C l now T sv R X i k Z)(hk:(C.a i 4).toNat=k):RJ C l now T sv R X (i+1) Z:=by
 refine⟨h.n,fun j h1 h2=>?_,fun j h1 h2=>h.hi j h1 (by omega)⟩
 by_cases e:j=i
 . subst e;obtain⟨y,m,H,Y⟩:=h.ix h1;subst hk;exact⟨by rw[y];show _=R.x j+plU C l now j (sv j) (C.a j 4).toNat+X.p j;omega,m,H,Y⟩
 . exact h.lo j h1 (by omega)
theorem RJ.done(h:RJ C l now T sv R X 2 Z):rpL Z=rpL (rpN C l now T sv R X):=Jce (fun i hi=>h.lo i hi hi) h.n
end
theorem QJ(tmps:Array Value)(U:V6)(Y:Nat)(h:List Value)(h2:tmps.getD 12 undef=Ve Y 0)(y:U.rangeAt Y 0 h)(hn:h.length=15):
 (results Tryz.f51 tmps).run prog U=.ok (.agg h.toArray) U:=by
 have h3:tmps[12]?.getD undef=Ve Y 0:=by simpa using h2
 simp[results,results51,h3,asAddr,run_loadVar_mid U Y 0 75 h _ y underlying75 rfl (by rw[Xn,hn])]
theorem QM(C:CR)(pf:V8)(cf:Nat)(l:List Ft)(T:FS)(sv:Nat->List Sv)(R:Rp)(X:Stp)(now:Int)(hl:l.length<=1000)(h4:∀i,i<2->2<=C.a i 4/\C.a i 4<=4)(h5:∀i,i<2->0<=C.a i 5/\C.a i 5<=1000)(hc:∀i,i<2->(sv i).length=(C.a i 4).toNat)(hz:∀i,i<2->∀k,(-2000<=(A0 (sv i) k).1/\(A0 (sv i) k).1<=2000)/\((A0 (sv i) k).2.2=true->(A0 (sv i) k).1=0))(hx:∀i,i<2->-10000000<=R.x i/\R.x i<=10000000)(hp:∀i,i<2->-1000<=X.p i/\X.p i<=1000)(w:V6)(hv:SvL w T sv)(hf:Fts w pf l):
 Va 51 #[.agg (crL C).toArray,.slice pf l.length cf,.agg (stL T).toArray,.agg (rpL R).toArray,.agg (A6 X).toArray,Vi now] w (Rt w (.agg (rpL (rpN C l now T sv R X)).toArray)):=by
 have Hv:=Za (fun u (h:Bw w u) (ax un:Int)=>UZ pf cf l now ax un true hl u (hf.lq h));have HV:=Za (fun u (h:Bw w u)=>hv.lq h);have HZ:=Za hz;have Hw:=Za hc;have Hx:=Za hx;have Hy:=Za hp;have H4:=Za h4;have H5:=Za h5;have H:=Za (Jqe w C T R X Qba rfl);clear hv hf hz hc hx hp h4 h5
 go_enter func51,ntmps51
 go_upto_region 1 with fail;generalize ((((w.alloc _).alloc _).alloc _).alloc _).alloc _=v0 at *;generalize w.heap.size+1+1+1+1=QO at *;generalize w.heap.size+1+1+1=QX at *;generalize w.heap.size+1+1=QR at *;generalize w.heap.size+1=QS at *;generalize ho:w.heap.size=QC at H|-;have xn:=(H.o.s.cell (show(stL T)[29]?=some (Vi T.n) from rfl)).1;have yn:=H.o.r.cell (show(rpL R)[6]?=some (Vi R.n) from rfl)
 go_upto_region 2 with fail;replace H:=Za (H.o.set (j:=6) (v:=Vi T.n) (R':={ R with n:=T.n }) rfl);clear xn yn;generalize v0.setCell _ _=v1 at*
 go_upto_region 3 with fail
 go_loopw [13] (fun ix wr=>∃(i:Nat) (Z:Rp),i<=2/\ix=Vi i/\RJ C l now T sv R X i Z/\RBx w wr QC QS QR QX QO C T X Z) (fun ix _=>2-(intOf ix).toNat)
 case atStart=>exact⟨0,_,by omega,rfl,RJ.zero,H.o⟩
 case round=>
  clear H;obtain⟨i,Z,hq,rfl,M,G⟩:=hrel
  by_cases hi:i<2
  . have i0:(0:Int)<=(i:Int):=by omega
    have i1:(i:Int)<2:=by omega
    have i3:(i:Int)<3:=by omega
    have O:=Za M;have H:=Za G;have Hj:=Za (M.hi i hi (Nat.le_refl _)).1;clear M G;have Hl:Hd (wr.rangeAt QS (i*7) (bkL (T.bk i))):=Za (by have h:=H.o.s.sub (i*7) 7;rw[ON T (show i<3 by omega)] at h;exact h);have hd:∀u,Va 78 #[.agg (bkL (T.bk i)).toArray] u (Rt u (Vi (Zt (T.bk i).o 3))):=Zhn (T.bk i).b (T.bk i).o (T.bk i).l;have W:=H.o.r.cell (Jrz Z hi);have N:=H.o.r.cell (Jpq Z hi)
    go_upto_region 6 with(first
     |(refine Lm 102 (.tmp 30) rfl QS (i*7) (bkL (T.bk i)) Hl.o underlying102 Xl ?_)
     |(go_at_call 78;refine Sb (hd _) fun v2 P=>?_;replace H:=Za (H.o.lq P);replace W:_/\_:=⟨cell_later P W.1,Yw P W.1 W.2⟩;replace N:_/\_:=⟨cell_later P N.1,Yw P N.1 N.2⟩;clear P Hl))
    replace H:=Za ((H.o.set (Jbx Z hi (Zt (T.bk i).o 3))).set (PN _ hi 0));clear W N hd;generalize (v2.setCell _ _).setCell _ _=v3 at *;have HE:=Za (O.o.enter hi);have Hf:=Za (Hy.o i hi);have Hg:=Za (Hx.o i hi);have E:=H.o.r.cell (Jjj _ hi);have ep:=(H.o.x.cell (Jqf X hi)).1
    dsimp only at E
    have wx:IntKind.i64.wrap (Z.x i+X.p i)=Z.x i+X.p i:=Xj (by have:=Hj.o;have:=Hf.o;have:=Hg.o;omega) (by have:=Hj.o;have:=Hf.o;have:=Hg.o;omega);refine Ct [37,38,39,40,41,42,43,44,45,46,47,48] ?_;refine Cp 0 37 [] ?_;refine Cp 1 38 [] ?_;refine Cp 2 39 [] ?_;refine Cp 3 40 [1,2] ?_;refine Cy (fun _ h=>cell_later h E.1) 4 41 [3] ?_;refine Cp 5 42 [] ?_;refine Cp 6 43 [] ?_;refine Cp 7 44 [5,6] ?_;refine Cy (V5 ep) 8 45 [7] ?_;refine Cp 9 46 [4,8] ?_;refine Cp 10 47 [] ?_;refine Cp 11 48 [0,10] ?_;refine Cn 1 13 [12] (fun y u J _=>?_);refine Ra 12 (fun K hK=>?_);have e:=cell_later J E.1;have e1:=Yw J E.1 E.2;go_simp;refine hK.out _ _ trivial (fun _=>?_);clear hK K;refine Dn ?_;replace H:=Za ((H.o.lq J).set (Jcd _ hi (Z.x i+X.p i)))
    dsimp only at H
    clear J e e1 E ep wx;generalize u.setCell _ _=v4 at *;go_simp;refine Ek ?_;generalize (⟨upd Z.x i (Z.x i+X.p i),upd Z.l i (Zt (T.bk i).o 3),upd Z.s i 0,Z.n,Z.a⟩:Rp)=Z1 at *;have HN:Hd (∃m:Nat,C.a i 4=(m:Int)/\(C.a i 4).toNat=m/\m<=4):=Za ⟨(C.a i 4).toNat,by have:=H4.o i hi;omega,rfl,by have:=H4.o i hi;omega⟩;obtain⟨m,hm,he,hs⟩:=HN.o;have Hm:=Za he;clear O HN he Hj
    go_upto_region 8 with fail
    go_loopw [14] (fun ix D=>∃(k:Nat) (Y:Rp),k<=m/\ix=Vi k/\RI C l now T sv R X i k Y/\RBx w D QC QS QR QX QO C T X Y) (fun ix _=>m-(intOf ix).toNat)
    case atStart=>exact⟨0,Z1,by omega,rfl,HE.o,H.o⟩
    case round=>
     clear HE H;obtain⟨k,Y,hk,rfl,M,G⟩:=hrel;rename World=>D;have xm:=(G.c.cell (Jb8 C hi)).1;rw[hm] at xm
     by_cases hlt:k<m
     . have k0:(0:Int)<=(k:Int):=by omega
       have k1:(k:Int)<(m:Int):=by omega
       have k4:(k:Int)<4:=by omega
       have O:=Za M;have H:=Za G;have Hn:=Za (HV.o D G.b i hi)
       have hn:k<(sv i).length:=by rw[Hw.o i hi,Hm.o];exact hlt
       obtain⟨b,off,esp,s0,s1,s2⟩:=Hn.o.2.2.at hn;have Hh:=Za esp;have x21:=(G.s.cell (Uw T hi)).1;rw[esp,Hn.o.1] at x21
       have kl:(k:Int)<((sv i).length:Int):=by omega
       have Hz:=Za (HZ.o i hi k);have Hb:=Za (Jqg C l now i k (A0 (sv i) k) (HZ.o i hi k).2 (H5.o i hi));have Hk:Hd (AI (sv i) (k+1)=if(A0 (sv i) k).2.2 then AI (sv i) k else AI (sv i) k+1):=Za rfl;have Ho:=Za (Jcf C l now i k (A0 (sv i) k) (HZ.o i hi k).1 (H5.o i hi));have U:=Za (M.ix hi);have Hp:=Za (Jcg (fun k=>Jcf C l now i k (A0 (sv i) k) (HZ.o i hi k).1 (H5.o i hi)) k);have Hq:=Za (CC (sv i) k);clear M G esp;generalize hg:A0 (sv i) k=sq at *;have HC:=Za hg;clear hg;obtain⟨Q,I,so⟩:=sq
       dsimp only at s0 s1 s2 Hz Hb Hk Ho
       go_upto_region 11 with fail;have A:=Zb D (.cells #[Vi Q,Vi I,.bool so] 169);have F:Hd (Blk 169 (D.alloc (.cells #[Vi Q,Vi I,.bool so] 169)) D.heap.size [Vi Q,Vi I,.bool so]):=Za (Blk.new D _ _);replace H:=Za (H.o.lq A);clear A s0 s1 s2 x21 xm;generalize D.alloc (.cells #[Vi Q,Vi I,.bool so] 169)=v5 at *;generalize D.heap.size=QV at F|-;have z0:=(F.o.cell (j:=0) rfl).1
       go_upto_region 12 with fail;clear z0;have ha:=Hv.o v5 H.o.b i k;generalize alC (ail l now i k true)=Fq at *;generalize (ail l now i k true).isSome=ok at *;obtain⟨fa,fk,fx,fu,L⟩:=Fq
       unfold ftL at ha
       dsimp only at ha Hb
       go_upto_region 13 with(go_at_call 73;refine ha.mono ?_;rintro e B ⟨rfl,P⟩;replace H:=Za (H.o.lq P);replace F:=Za (F.o.lq P);clear P);have A:=Zb B (.cells #[Vi fa,Vi fk,Vi fx,Vi fu,Vi L] 64);have HF:Hd (Blk 64 (B.alloc (.cells #[Vi fa,Vi fk,Vi fx,Vi fu,Vi L] 64)) B.heap.size [Vi fa,Vi fk,Vi fx,Vi fu,Vi L]):=Za (Blk.new B _ _);replace H:=Za (H.o.lq A);replace F:=Za (F.o.lq A);clear A ha;generalize B.alloc (.cells #[Vi fa,Vi fk,Vi fx,Vi fu,Vi L] 64)=v7 at *;generalize B.heap.size=QF at HF|-;have f4:=(HF.o.cell (j:=4) rfl).1;have z2:=(F.o.cell (j:=2) rfl).1;have xt:=(H.o.c.cell (Jr7 C hi)).1;have hT:=H5.o i hi;have hh:=Yx L (-(C.a i 5)) (C.a i 5);have wn:=Wr (-(C.a i 5));have N:=H.o.r.cell (Jpq Y hi);have wy:IntKind.i64.wrap (Y.s i+1)=Y.s i+1:=Xj (by have:=U.o.2.2.1;have:=Hq.o;omega) (by have:=U.o.2.2.1;have:=Hq.o;omega)
       cases so<;>cases ok
       case' false.true=>
        go_upto_region 14 with fail;refine Cs [81,82,83,84,85,86,87,88,89,90,91,92,93,94,16] ?_;refine Cp 0 81 [] ?_;refine Cq (V5 f4) 1 82 [0] ?_;refine Cp 2 83 [] ?_;refine Cp 3 84 [] ?_;refine Cp 4 85 [2,3] ?_;refine Cp 5 86 [4] ?_;refine Cq (V5 xt) 6 87 [5] ?_;refine Cp 7 88 [6] ?_;refine Cp 8 89 [] ?_;refine Cp 9 90 [] ?_;refine Cp 10 91 [8,9] ?_;refine Cp 11 92 [10] ?_;refine Cq (V5 xt) 12 93 [11] ?_;refine Cc 13 94 [1,7,12] (fun y w h _=>Yc (hh _)) ?_;refine Cp 14 16 [13] ?_;refine Ce (fun y u1 J hf=>?_);have Hr:=Za J;clear J hf;go_simp;have J:=Hr.o;clear Hr;replace H:=Za (H.o.lq J);replace N:_/\_:=⟨cell_later J N.1,Yw J N.1 N.2⟩;replace z2:=cell_later J z2;clear J;generalize u1=v7 at *;refine Ek ?_;have Hi:Hd (plc C l now i k (Q,I,false)=Ze L (-(C.a i 5)) (C.a i 5)):=Za (by rw[Hb.o];rfl);generalize Ze L (-(C.a i 5)) (C.a i 5)=Q at*
       case' false.false=>
        have Hi:Hd (plc C l now i k (Q,I,false)=Q):=Za (by rw[Hb.o];rfl)
       case' false.true|false.false=>
        go_upto_region 17 with fail;replace H:=Za (H.o.set (PN Y hi (Y.s i+1)));have Hh:Hd (Y.s i+1=AI (sv i) (k+1)):=Za (by rw[Hk.o,U.o.2.2.1];rfl);generalize v7.setCell _ _=v7 at *;rw[Hh.o] at H
       case' true.true|true.false=>
        go_upto_region 17 with fail;have Hh:Hd (Y.s i=AI (sv i) (k+1)):=Za (by rw[Hk.o,U.o.2.2.1];rfl);replace H:=Za (H.o.cong (R':={ Y with s:=upd Y.s i (AI (sv i) (k+1)) }) (by rw[Q2 Hh.o]));have Hi:Hd (plc C l now i k (Q,I,true)=Q):=Za (by rw[Hb.o];rfl)
       all_goals
        clear f4 z2 xt hh wn N wy HF F hT;have HD:=Za (O.o.step hi (s:=AI (sv i) (k+1)) rfl (p:=Q) (by rw[HC.o];exact Hi.o.symm));have Hs:Hd (-2000<=Q/\Q<=2000):=Za (by have:=Ho.o;rw[Hi.o] at this;exact this);have ya:=H.o.r.cell (Jr6 _ hi (show k<4 by omega))
        go_upto_region 18 with fail;replace H:=Za (H.o.set (Jm7 _ hi (show k<4 by omega) Q))
        dsimp only at H
        clear ya;generalize v7.setCell _ _=v8 at *;have E:=H.o.r.cell (Jjj _ hi)
        dsimp only at E
        have wx:IntKind.i64.wrap (Y.x i+Q)=Y.x i+Q:=Xj (by have:=U.o.1;have:=Hp.o;have:=Hs.o;have:=Hf.o;have:=Hg.o;omega) (by have:=U.o.1;have:=Hp.o;have:=Hs.o;have:=Hf.o;have:=Hg.o;omega);go_wp2_with fail;replace H:=Za (H.o.set (Jcd _ hi (Y.x i+Q)));go_roundw
        case rel=>exact⟨k+1,_,by omega,by go_num,HD.o,H.o⟩
        case measure=>simp[intOf];omega
     . obtain rfl:k=m:=by omega
       have O:=Za (M.leave Hm.o);have H:=Za G;clear M G;go_wp2_with fail;go_roundw
       case rel=>exact⟨i+1,_,by omega,by go_num,O.o,H.o⟩
       case measure=>simp[intOf];omega
  . obtain rfl:i=2:=by omega
    have HE:=Za M.done;have HG:=Za G.r;have HO:=Za G.o;have HB:=Za G.b;have HN:=Za G.n.2.2.2.2.2;clear M G;generalize Ht:rpL Z=cs at *;have Hc:Hd (cs.length=15/\cs.toArray.all (·.oneCell')=true):=Za (by rw[<-Ht];exact⟨rfl,Zm _ rfl⟩);have Hu:Hd (wr.there QO 0 cs.length):=Za (by rw[Hc.o.1];exact HO.o);clear Ht
    go_wp2_with (first
     |(refine Lm 75 (.tmp 9) rfl QR 0 cs HG.o.range underlying75 (by rw[Xn,Hc.o.1]) ?_)
     |(refine Sq 75 _ _ rfl ?_;refine wpList_store_mid rfl 75 (.tmp 12) (.tmp 120) rfl QO 0 cs.toArray rfl rfl (by simpa using Hu.o) (by rw[Xn];simp[Hc.o.1]) Hc.o.2 ?_))
    exact bodyPost_ret (v:=.agg cs.toArray) (QJ _ _ QO cs rfl (World.rangeAt_setCells_same _ _ _ _ Hu.o) Hc.o.1) rfl ⟨by rw[HE.o],Zo cs 0 wr HB.o HN.o⟩
end Go.Proofs.YtnepnnkdgejheaaGreatDoor
