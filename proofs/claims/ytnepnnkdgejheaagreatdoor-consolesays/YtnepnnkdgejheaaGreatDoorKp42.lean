
import Derived.Test.YtnepnnkdgejheaaGreatDoorKp35
import Derived.Test.YtnepnnkdgejheaaGreatDoorKp40
set_option maxRecDepth 100000
set_option maxHeartbeats 20000000
namespace Go.Proofs.YtnepnnkdgejheaaGreatDoor
open Go.RowKit Plain Tryz
variable {C:CR}{k:Nat}{l:List Ft}{ss:List Stp}
theorem KX(C:CR)(w:V6)(hl:CrL w C):Va 44 #[.agg (crL C).toArray] w (Rt w (Vi (crE C))):=
 PT (C.a 0 0) (C.a 0 1) (C.a 0 2) (C.a 0 3) (C.a 0 4) (C.a 0 5) (C.a 0 6) (C.a 0 7) (C.a 0 8) (C.a 0 9) (C.a 0 10) (C.a 0 11) (C.a 0 14) (C.p 0) (C.q 0) (C.al 0) (C.zl 0) (C.cn 0) (C.cm 0) (C.a 1 0) (C.a 1 1) (C.a 1 2) (C.a 1 3) (C.a 1 4) (C.a 1 5) (C.a 1 6) (C.a 1 7) (C.a 1 8) (C.a 1 9) (C.a 1 10) (C.a 1 11) (C.a 1 14) (C.p 1) (C.q 1) (C.al 1) (C.zl 1) (C.cn 1) (C.cm 1) C.c0 C.c1 w (hl 0 (by omega)) (hl 1 (by omega))
theorem PU(X:Nat)(x y:Int)(w:V6)(h:w.heap[X]?=some (.cells [Vi x,Vi y].toArray 22 (0,0))):Va 45 #[Vf X 0 2 2] w (Rt w (Vi (Zk [x,y]))):=
 have k:Blk 22 w X [Vi x,Vi y]:=h
 (ET X 2 x y w (k.cell (j:=0) rfl).1 (k.cell (j:=1) rfl).1).mono (by rintro e w' ⟨rfl,rfl⟩;exact⟨rfl,Below.refl _ _⟩)
def fl0(C:CR)(l:List Ft)(h:List Stp):Int:=Zk [crE C,if 20<l.length\/300<h.length then 2 else 0]
def fl1(C:CR)(l:List Ft)(h:List Stp):Nat->Int
 |0=>fl0 C l h
 |k+1=>if fl1 C l h k=0 then ftE C (BK l k) else fl1 C l h k
def fl2(C:CR)(l:List Ft)(h:List Stp):Nat->Int
 |0=>fl1 C l h l.length
 |k+1=>if fl2 C l h k=0 then AW C (BI h k) else fl2 C l h k
def AM(C:CR)(l:List Ft)(h:List Stp):Int:=fl2 C l h h.length
theorem U2(h:fl1 C l ss k≠0):∀m,k<=m->fl1 C l ss m=fl1 C l ss k
 |0,hm=>by
  obtain rfl:k=0:=by omega
  rfl
 |m+1,hm=>by
  by_cases e:k=m+1
  . rw[e]
  . rw[fl1,U2 h m (by omega),if_neg h]
theorem Un(h:fl2 C l ss k≠0):∀m,k<=m->fl2 C l ss m=fl2 C l ss k
 |0,hm=>by
  obtain rfl:k=0:=by omega
  rfl
 |m+1,hm=>by
  by_cases e:k=m+1
  . rw[e]
  . rw[fl2,Un h m (by omega),if_neg h]
theorem EI(h:fl0 C l ss=0):crE C=0/\l.length<=20/\ss.length<=300:=by
 unfold fl0 at h
 by_cases h1:crE C=0
 . rw[h1] at h
   by_cases h2:20<l.length\/300<ss.length
   . rw[if_pos h2] at h;simp[Zk] at h
   . omega
 . simp[Zk,h1] at h
theorem EJ(h:fl1 C l ss k=0):∀m,m<=k->fl1 C l ss m=0:=fun m y=>by
 by_cases e:fl1 C l ss m=0
 . exact e
 . rw[<-h,U2 e k y]
theorem EK(h:fl2 C l ss k=0):∀m,m<=k->fl2 C l ss m=0:=fun m y=>by
 by_cases e:fl2 C l ss m=0
 . exact e
 . rw[<-h,Un e k y]
structure Jp6 (C:CR) (l:List Ft) (ss:List Stp):Prop where
 cr:crE C=0
 nl:l.length<=20
 ns:ss.length<=300
 ft:∀k,k<l.length->Jmp C (BK l k)
 st:∀k,k<ss.length->SA C (BI ss k)
theorem YY(h:AM C l ss=0):Jp6 C l ss:=by
 have h1:fl1 C l ss l.length=0:=EK h 0 (by omega);have h0:=EI (show fl0 C l ss=0 from EJ h1 0 (by omega));refine⟨h0.1,h0.2.1,h0.2.2,fun k hk=>?_,fun k hk=>?_⟩
 . have a:=EJ h1 (k+1) (by omega);rw[fl1,if_pos (EJ h1 k (by omega))] at a
   unfold ftE at a
   split at a
   . rename_i e;exact Jp1 e
   . cases a
 . have a:=EK h (k+1) (by omega);rw[fl2,if_pos (EK h k (by omega))] at a
   unfold AW at a
   split at a
   . rename_i e;exact Jmq e
   . cases a
theorem Jp7(h:Jp6 C l ss):AM C l ss=0:=by
 have h0:fl0 C l ss=0:=by unfold fl0;rw[h.cr,if_neg (by have:=h.nl;have:=h.ns;omega)];rfl
 have h1:∀k,k<=l.length->fl1 C l ss k=0:=fun k=>by
  induction k with
  |zero=>intro _;exact h0
  |succ k ih=>intro hk;rw[fl1,if_pos (ih (by omega))];unfold ftE;rw[if_pos (Jp2 (h.ft k (by omega)))]
 have h2:∀k,k<=ss.length->fl2 C l ss k=0:=fun k=>by
  induction k with
  |zero=>intro _;exact h1 _ (Nat.le_refl _)
  |succ k ih=>intro hk;rw[fl2,if_pos (ih (by omega))];unfold AW;rw[if_pos (Jmr (h.st k (by omega)))]
 exact h2 _ (Nat.le_refl _)
theorem MC(C:CR)(J:V8)(P:Nat)(l:List Ft)(K:V8)(D:Nat)(H:List Stp)(hu:l.length<=9223372036854775807)(hv:H.length<=9223372036854775807)(w:V6)(ho:CrL w C)(hF:Fts w J l)(hS:Sts w K H):
 Va 25 #[.agg (crL C).toArray,.agg #[.slice J l.length P,.slice K H.length D]] w (Rt w (Vi (AM C l H))):=by
 have Hk:=Za (fun u (h:Bw w u)=>KX C u (ho.lq h));have Hl:=Za (fun u (h:Bw w u)=>hF.lq h);have Hm:=Za (fun u (h:Bw w u)=>hS.lq h);have B:=Za ((Blk.new w 41 (crL C)).lq (Zb (w.alloc (.cells (crL C).toArray 41)) (.cells #[.slice J l.length P,.slice K H.length D] 46)));have Y:Hd (Blk 46 ((w.alloc (.cells (crL C).toArray 41)).alloc (.cells #[.slice J l.length P,.slice K H.length D] 46)) (w.heap.size+1) [.slice J l.length P,.slice K H.length D]):=Za (by have h:=Blk.new (w.alloc (.cells (crL C).toArray 41)) 46 [.slice J l.length P,.slice K H.length D];rw[World.size_alloc] at h;exact h);have U:=Za (Zc (Zb w (.cells (crL C).toArray 41)) (Zb (w.alloc (.cells (crL C).toArray 41)) (.cells #[.slice J l.length P,.slice K H.length D] 46)));clear ho hF hS
 go_enter func25,ntmps25
 go_upto_region 1 with fail;generalize (w.alloc (.cells (crL C).toArray 41)).alloc (.cells #[.slice J l.length P,.slice K H.length D] 46)=v0 at *;generalize w.heap.size+1=QF at Y|-;generalize hs:w.heap.size=QK at B|-;clear hs;have T:=(Y.o.cell (j:=0) rfl).1;have xs:=(Y.o.cell (j:=1) rfl).1;have Hi:=Za B.o.range;have hn:=fun u (h:Bw v0 u)=>Hk.o u (Zc U.o h)
 by_cases h1:(20:Int)<(l.length:Int)
 . have I:=Yr 2;have L:Hd (fl0 C l H=Zk [crE C,2]):=Za (by unfold fl0;rw[if_pos (by omega)])
   have A:Hd (fl0 C l H≠0/\AM C l H=fl0 C l H):=Za (by
    have ha:fl0 C l H≠0:=fun e=>by have:=EI e;omega
    have h1:fl1 C l H l.length=fl0 C l H:=U2 (k:=0) ha l.length (by omega);have h2:fl2 C l H H.length=fl2 C l H 0:=Un (k:=0) (by show fl1 C l H l.length≠0;rw[h1];exact ha) H.length (by omega)
    exact⟨ha,h2.trans h1⟩)
   refine Cs [8,9,10,11,12,13,14,15,16,17,18,19,20,21,22,5] ?_;refine Cl (x:=.tmp 2) 0 8 [] (fun y w _ u G=>⟨Zf Hi.o G,rfl⟩) underlying41 Zr ?_;refine Cc 1 9 [0] (fun y w h _=>hn _ h) ?_;refine Cp 2 10 [] ?_;refine Cq (V5 T) 3 11 [2] ?_;refine Cp 4 12 [3] ?_;refine Cp 5 13 [4] ?_;refine Cp 6 14 [5] ?_;refine Cz 7 15 [6] ?_;refine Cz 8 16 [6] ?_;refine Cz 9 17 [6] ?_;refine Cz 10 18 [6] ?_;refine Cp 11 19 [6,10] ?_;refine Cc 12 20 [11] (fun y w h _=>Yc (I _)) ?_;refine Cbs (z:=[Vi (crE C),Vi 2]) (t:=22) (n:=2) 13 21 [1,12] ?_;refine Cg 14 22 13 21 (fun X w _ hX=>PU X (crE C) 2 w hX) ?_;refine Cp 15 5 [14] ?_;refine Ce (fun y E Z F=>?_);have Q:=Za Z;clear Z F;go_simp;have Z:=Q.o;clear Q;generalize E=v2 at Z|-;rw[<-L.o];have HX:Hd (AM C l H=fl0 C l H):=Za A.o.2;have ha:=A.o.1;clear L I A;generalize fl0 C l H=x at *;generalize y 21=y21 at *;refine Ek ?_;have R:=Za (Zc U.o Z);replace Y:=Za (Y.o.lq Z);clear Z T xs;have T:=(Y.o.cell (j:=0) rfl).1;have xs:=(Y.o.cell (j:=1) rfl).1
   go_upto_region 3 with fail;refine wp_loop_rounds 1 ?_;rw[rounds_succ]
   go_upto_region 7 with fail
   all_goals (refine wp_loop_rounds 1 ?_;rw[rounds_succ];go_wp2_with fail)
   all_goals (go_ret;exact⟨by rw[HX.o];rfl,R.o⟩)
 by_cases h2:(300:Int)<(H.length:Int)
 . have I:=Yr 2;have L:Hd (fl0 C l H=Zk [crE C,2]):=Za (by unfold fl0;rw[if_pos (by omega)])
   have A:Hd (fl0 C l H≠0/\AM C l H=fl0 C l H):=Za (by
    have ha:fl0 C l H≠0:=fun e=>by have:=EI e;omega
    have h1:fl1 C l H l.length=fl0 C l H:=U2 (k:=0) ha l.length (by omega);have h2:fl2 C l H H.length=fl2 C l H 0:=Un (k:=0) (by show fl1 C l H l.length≠0;rw[h1];exact ha) H.length (by omega)
    exact⟨ha,h2.trans h1⟩)
   refine Cs [8,9,10,11,12,13,14,15,16,17,18,19,20,21,22,5] ?_;refine Cl (x:=.tmp 2) 0 8 [] (fun y w _ u G=>⟨Zf Hi.o G,rfl⟩) underlying41 Zr ?_;refine Cc 1 9 [0] (fun y w h _=>hn _ h) ?_;refine Cp 2 10 [] ?_;refine Cq (V5 T) 3 11 [2] ?_;refine Cp 4 12 [3] ?_;refine Cp 5 13 [4] ?_;refine Cp 6 14 [5] ?_;refine Cp 7 15 [6] ?_;refine Cq (V5 xs) 8 16 [7,6] ?_;refine Cp 9 17 [8,6] ?_;refine Cp 10 18 [9,6] ?_;refine Cp 11 19 [6,10] ?_;refine Cc 12 20 [11] (fun y w h _=>Yc (I _)) ?_;refine Cbs (z:=[Vi (crE C),Vi 2]) (t:=22) (n:=2) 13 21 [1,12] ?_;refine Cg 14 22 13 21 (fun X w _ hX=>PU X (crE C) 2 w hX) ?_;refine Cp 15 5 [14] ?_;refine Ce (fun y E Z F=>?_);have Q:=Za Z;clear Z F;go_simp;have Z:=Q.o;clear Q;generalize E=v2 at Z|-;rw[<-L.o];have HX:Hd (AM C l H=fl0 C l H):=Za A.o.2;have ha:=A.o.1;clear L I A;generalize fl0 C l H=x at *;generalize y 21=y21 at *;refine Ek ?_;have R:=Za (Zc U.o Z);replace Y:=Za (Y.o.lq Z);clear Z T xs;have T:=(Y.o.cell (j:=0) rfl).1;have xs:=(Y.o.cell (j:=1) rfl).1
   go_upto_region 3 with fail;refine wp_loop_rounds 1 ?_;rw[rounds_succ]
   go_upto_region 7 with fail
   all_goals (refine wp_loop_rounds 1 ?_;rw[rounds_succ];go_wp2_with fail)
   all_goals (go_ret;exact⟨by rw[HX.o];rfl,R.o⟩)
 have I:=X0 2;have L:Hd (fl0 C l H=Zk [crE C,0]):=Za (by unfold fl0;rw[if_neg (by omega)]);refine Cs [8,9,10,11,12,13,14,15,16,17,18,19,20,21,22,5] ?_;refine Cl (x:=.tmp 2) 0 8 [] (fun y w _ u G=>⟨Zf Hi.o G,rfl⟩) underlying41 Zr ?_;refine Cc 1 9 [0] (fun y w h _=>hn _ h) ?_;refine Cp 2 10 [] ?_;refine Cq (V5 T) 3 11 [2] ?_;refine Cp 4 12 [3] ?_;refine Cp 5 13 [4] ?_;refine Cp 6 14 [5] ?_;refine Cp 7 15 [6] ?_;refine Cq (V5 xs) 8 16 [7,6] ?_;refine Cp 9 17 [8,6] ?_;refine Cp 10 18 [9,6] ?_;refine Cp 11 19 [6,10] ?_;refine Cc 12 20 [11] (fun y w h _=>Yc (I _)) ?_;refine Cbs (z:=[Vi (crE C),Vi 0]) (t:=22) (n:=2) 13 21 [1,12] ?_;refine Cg 14 22 13 21 (fun X w _ hX=>PU X (crE C) 0 w hX) ?_;refine Cp 15 5 [14] ?_;refine Ce (fun y E Z F=>?_);have Q:=Za Z;clear Z F;go_simp;have Z:=Q.o;clear Q;generalize E=v2 at Z|-;rw[<-L.o];have Hj:Hd (fl0 C l H=fl1 C l H 0):=Za rfl;rw[Hj.o];clear L I Hj h1 h2 hn Hi T xs;generalize y 21=y21 at *;refine Ek ?_;replace U:=Za (Zc U.o Z);replace Y:=Za (Y.o.lq Z);replace B:=Za (B.o.lq Z);clear Z
 go_upto_region 3 with fail
 go_loopw [5,6] (fun fe ix wr=>∃k:Nat,k<=l.length/\ix=Vi k/\fe=Vi (fl1 C l H k)/\Blk 46 wr QF [.slice J l.length P,.slice K H.length D]/\Blk 41 wr QK (crL C)/\Bw w wr) (fun _ ix _=>l.length-(intOf ix).toNat)
 case atStart=>exact⟨0,by omega,rfl,rfl,Y.o,B.o,U.o⟩
 case round=>
  clear Y B U;obtain⟨k,hk,rfl,rfl,M,N,hd⟩:=hrel;have T:=(M.cell (j:=0) rfl).1;have xs:=(M.cell (j:=1) rfl).1
  have k0:(0:Int)<=(k:Int):=by omega
  by_cases hgo:k<l.length/\fl1 C l H k=0
  . obtain⟨hp,O⟩:=hgo
    have k1:(k:Int)<(l.length:Int):=by omega
    have HN:Hd (fl1 C l H (k+1)=ftE C (BK l k)):=Za (by rw[fl1,if_pos O]);obtain⟨b,off,rfl,hr⟩:=(Hl.o wr hd).at hp;have hl:=EG C (BK l k);rw[O];clear O
    go_upto_region 5 with fail;refine Cs [34,35,36,37,38,39,40,5] ?_;refine Cl (x:=.tmp 2) 0 34 [] (fun y w _ u G=>⟨Zf N.range G,rfl⟩) underlying41 Zr ?_;refine Cp 1 35 [] ?_;refine Cq (V5 T) 2 36 [1] ?_;refine Cp 3 37 [] ?_;refine Cp 4 38 [2,3] ?_;refine Cl (x:=.tmp 38) 5 39 [4] (fun y w hF u G=>⟨Zf hr G,hF.1⟩) underlying64 W7 ?_;refine Cc 6 40 [0,5] (fun y w h _=>hl _) ?_;refine Cp 7 5 [6] ?_;refine Ce (fun y E Z F=>?_);have Q:=Za Z;clear Z F;go_simp;have Z:=Q.o;clear Q;generalize E=v2 at Z|-;refine Ek ?_;have W:=Za (M.lq Z);have Hh:=Za (N.lq Z);have R:=Za (Zc hd Z);clear M N hd Z T xs hr hl;go_wp2_with fail;go_roundw
    case rel=>exact⟨k+1,by omega,by go_num,by rw[HN.o],W.o,Hh.o,R.o⟩
    case measure=>simp[intOf];omega
  . have Hn:Hd (fl1 C l H k=fl2 C l H 0):=Za (by
     show fl1 C l H k=fl1 C l H l.length
     by_cases e:fl1 C l H k=0
     . obtain rfl:k=l.length:=by omega
       rfl
     . exact(U2 e l.length hk).symm)
    have W:=Za M;have Hh:=Za N;have R:=Za hd;have ha:k<l.length->¬fl1 C l H k=0:=fun h e=>hgo ⟨h,e⟩;clear M N hd hgo;generalize fl1 C l H k=e1 at*
    by_cases hp:(k:Int)<(l.length:Int)
    all_goals (
     (try have hw:=ha (by omega));clear ha
     go_upto_region 7 with fail;rw[Hn.o]
     go_loopw [5,7] (fun fe ix wr=>∃k:Nat,k<=H.length/\ix=Vi k/\fe=Vi (fl2 C l H k)/\Blk 46 wr QF [.slice J l.length P,.slice K H.length D]/\Blk 41 wr QK (crL C)/\Bw w wr) (fun _ ix _=>H.length-(intOf ix).toNat)
     case atStart=>exact⟨0,by omega,rfl,rfl,W.o,Hh.o,R.o⟩
     case round=>
      clear W Hh R;obtain⟨m,hm,rfl,rfl,M,N,hd⟩:=hrel;rename World=>wq;have xs:=(M.cell (j:=1) rfl).1
      have m0:(0:Int)<=(m:Int):=by omega
      by_cases hgo:m<H.length/\fl2 C l H m=0
      . obtain⟨hq,O⟩:=hgo
        have m1:(m:Int)<(H.length:Int):=by omega
        have HN:Hd (fl2 C l H (m+1)=AW C (BI H m)):=Za (by rw[fl2,if_pos O]);have hc:=(EI (show fl0 C l H=0 from EJ (show fl1 C l H l.length=0 from EK O 0 (by omega)) 0 (by omega))).1;have hl:=GU C (BI H m) (fun i hi=>by have:=(Yl hc hi).2;omega);obtain⟨b,off,rfl,hr⟩:=(Hm.o wq hd).at hq;rw[O];clear O hc
        go_upto_region 9 with fail;refine Cs [52,53,54,55,56,57,58,5] ?_;refine Cl (x:=.tmp 2) 0 52 [] (fun y w _ u G=>⟨Zf N.range G,rfl⟩) underlying41 Zr ?_;refine Cp 1 53 [] ?_;refine Cq (V5 xs) 2 54 [1] ?_;refine Cp 3 55 [] ?_;refine Cp 4 56 [2,3] ?_;refine Cl (x:=.tmp 56) 5 57 [4] (fun y w hF u G=>⟨Zf hr G,hF.1⟩) underlying70 Wf ?_;refine Cc 6 58 [0,5] (fun y w h _=>hl _) ?_;refine Cp 7 5 [6] ?_;refine Ce (fun y E Z F=>?_);have Q:=Za Z;clear Z F;go_simp;have Z:=Q.o;clear Q;generalize E=v2 at Z|-;refine Ek ?_;have W:=Za (M.lq Z);have Hh:=Za (N.lq Z);have R:=Za (Zc hd Z);clear M N hd Z xs hr hl;go_wp2_with fail;go_roundw
        case rel=>exact⟨m+1,by omega,by go_num,by rw[HN.o],W.o,Hh.o,R.o⟩
        case measure=>simp[intOf];omega
      . have Ho:Hd (AM C l H=fl2 C l H m):=Za (by
         show fl2 C l H H.length=fl2 C l H m
         by_cases e:fl2 C l H m=0
         . obtain rfl:m=H.length:=by omega
           rfl
         . exact Un e H.length hm)
        have R:=Za hd;have ha:m<H.length->¬fl2 C l H m=0:=fun h e=>hgo ⟨h,e⟩;clear N hd hgo;generalize fl2 C l H m=e2 at*
        by_cases hq:(m:Int)<(H.length:Int)
        all_goals (
         (try have ht:=ha (by omega));clear ha;go_wp2_with fail;go_ret
         exact⟨by rw[Ho.o];rfl,R.o⟩))
end Go.Proofs.YtnepnnkdgejheaaGreatDoor
