
import Derived.Test.YtnepnnkdgejheaaGreatDoorKp42
set_option maxRecDepth 100000
set_option maxHeartbeats 20000000
namespace Go.Proofs.YtnepnnkdgejheaaGreatDoor
open Go.RowKit Plain Tryz
variable {B K K' c n:Nat}{C:CR}{Q:Exit->Act->World->Prop}{T:FS}{a:Act}{l:List Ft}{ops:Array Oper}{rest:List Oper}{row:Option Nat}{rs:List Rp}{s:Value}{t:TypeId}{u u' v w:V6}
theorem YX(C:CR)(i:Nat)(n:Int)(h3:-100000000000<=C.a i 3/\C.a i 3<=100000000000)(w:V6):Va 105 #[.agg (axL C i).toArray,Vi n] w (Rt w (.bool (A1 n (-C.a i 3) (C.a i 3)))):=by
 have hi:=Yy n (-C.a i 3) (C.a i 3);obtain⟨Y,X⟩:=h3
 have ha:IntKind.i64.wrap (-C.a i 3)=-C.a i 3:=by rw[Xj]<;>omega
 have m:=Za (Blk.new w 38 (axL C i));have y:=Za (Zb w (.cells (axL C i).toArray 38));have e:Hd (¬0<=C.a i 3->A1 n (-C.a i 3) (C.a i 3)=false):=Za (fun h=>by unfold A1;by_cases q:-C.a i 3<=n<;>simp<;>omega);generalize A1 n (-C.a i 3) (C.a i 3)=b at*
 go_enter func105,ntmps105
 go_upto_region 1 with fail;generalize w.alloc (.cells (axL C i).toArray 38)=v0 at *;generalize w.heap.size=QA at m|-;have Q:=(m.o.cell (j:=3) rfl).1
 by_cases hp:0<=C.a i 3
 . go_wp2_with (go_at_call 55;refine Sb (hi _) fun v1 H=>?_;replace y:=Za (Zc y.o H);clear H);go_ret;exact⟨rfl,y.o⟩
 . have Z:=Za (e.o hp);clear e;go_wp2_with fail;go_ret;exact⟨by rw[Z.o];rfl,y.o⟩
def saB(C:CR)(s:Stp)(i:Nat):Bool:=A1 (s.k i) (-100) 100&&(A1 (s.p i) (-C.a i 3) (C.a i 3)&&A1 (s.z i) 0 8589934591)
theorem Jb9{s:Stp}{i:Nat}(hi:i<2)(h:saB C s i=false):AW C s=1:=by
 have e:EH C s 2=(A1 s.v 0 262143&&saB C s 0&&saB C s 1):=rfl
 unfold AW
 rw[e]
 rcases Qtw i with rfl|rfl<;>rw[h]<;>simp
theorem Jp5{s:Stp}(h0:saB C s 0=true)(h1:saB C s 1=true):AW C s=if A1 s.v 0 262143 then 0 else 1:=by
 have e:EH C s 2=(A1 s.v 0 262143&&saB C s 0&&saB C s 1):=rfl
 unfold AW
 rw[e,h0,h1,Bool.and_true,Bool.and_true]
theorem NU(C:CR)(s:Stp)(h3:∀i,i<2->-100000000000<=C.a i 3/\C.a i 3<=100000000000)(w:V6):Va 58 #[.agg (crL C).toArray,.agg (A6 s).toArray] w (Rt w (A8 (AW C s))):=by
 have I:=Za (fun i:Nat=>Yy (s.k i) (-100) 100);have L:=Za (fun i (hi:i<2)=>YX C i (s.p i) (h3 i hi));have O:=Za (fun i:Nat=>Yy (s.z i) 0 8589934591);have hk:=Yy s.v 0 262143;clear h3;have G:=Za ((Blk.new w 41 (crL C)).lq (Zb (w.alloc (.cells (crL C).toArray 41)) (.cells #[Vi (s.k 0),Vi (s.k 1),Vi (s.p 0),Vi (s.p 1),Vi (s.z 0),Vi (s.z 1),Vi s.v,.bool s.g] 70)));have Z:Hd (Blk 70 ((w.alloc (.cells (crL C).toArray 41)).alloc (.cells #[Vi (s.k 0),Vi (s.k 1),Vi (s.p 0),Vi (s.p 1),Vi (s.z 0),Vi (s.z 1),Vi s.v,.bool s.g] 70)) (w.heap.size+1) (A6 s)):=Za (by have h:=Blk.new (w.alloc (.cells (crL C).toArray 41)) 70 (A6 s);rw[World.size_alloc] at h;exact h);have D:=Za (Zc (Zb w (.cells (crL C).toArray 41)) (Zb (w.alloc (.cells (crL C).toArray 41)) (.cells #[Vi (s.k 0),Vi (s.k 1),Vi (s.p 0),Vi (s.p 1),Vi (s.z 0),Vi (s.z 1),Vi s.v,.bool s.g] 70)));have ha:(A6 s).toArray=#[Vi (s.k 0),Vi (s.k 1),Vi (s.p 0),Vi (s.p 1),Vi (s.z 0),Vi (s.z 1),Vi s.v,.bool s.g]:=rfl;rw[ha];clear ha
 go_enter func58,ntmps58
 go_upto_region 1 with fail;generalize (w.alloc (.cells (crL C).toArray 41)).alloc (.cells #[Vi (s.k 0),Vi (s.k 1),Vi (s.p 0),Vi (s.p 1),Vi (s.z 0),Vi (s.z 1),Vi s.v,.bool s.g] 70)=v0 at *;generalize w.heap.size+1=QS at Z|-;generalize U:w.heap.size=QK at G|-;clear U;have R:=Za (G.o.sub 0 30);rw[Jbk] at R
 go_upto_region 2 with(refine Lm 39 (.tmp 7) rfl QK 0 (axL C 0++axL C 1) R.o underlying39 JN ?_);clear R G
 go_loopw [9] (fun ix wr=>∃i:Nat,i<=2/\ix=Vi i/\(∀j,j<i->saB C s j=true)/\Blk 70 wr QS (A6 s)/\Bw w wr) (fun ix _=>2-(intOf ix).toNat)
 case atStart=>exact⟨0,by omega,rfl,fun j A=>by omega,Z.o,D.o⟩
 case round=>
  clear Z D;obtain⟨i,ho,rfl,hl,H,hd⟩:=hrel;have T:=Za hl;clear hl
  by_cases hi:i<2
  . have B:=Jbv C hi
    have i0:(0:Int)<=(i:Int):=by omega
    have i1:(i:Int)<2:=by omega
    have J:=I.o i;have hc:=L.o i hi;have hn:=O.o i;have K:Hd (saB C s i=(A1 (s.k i) (-100) 100&&(A1 (s.p i) (-C.a i 3) (C.a i 3)&&A1 (s.z i) 0 8589934591))):=Za rfl;have Z:=Za (H.lq (Zb wr (.cells (axL C i).toArray 38)));have Y:=Za (Zc hd (Zb wr (.cells (axL C i).toArray 38)));have M:Hd (Blk 38 (wr.alloc (.cells (axL C i).toArray 38)) wr.heap.size (axL C i)):=Za (Blk.new wr _ _);clear H hd hk;generalize A1 (s.k i) (-100) 100=b1 at *;generalize A1 (s.p i) (-C.a i 3) (C.a i 3)=b2 at *;generalize A1 (s.z i) 0 8589934591=b3 at*
    go_upto_region 4 with(refine Sq 38 _ _ rfl ?_;refine Wx (c':=(axL C i).toArray) (.tmp 6) (.tmp 12) rfl rfl rfl rfl rfl rfl (Zm _ rfl) ?_);clear B;generalize wr.alloc (.cells (axL C i).toArray 38)=v1 at *;generalize wr.heap.size=QA at M|-;have N:=(Z.o.cell (Jie s hi)).1;have E:=(Z.o.cell (Jif s hi)).1;have W:=(Z.o.cell (Jig s hi)).1
    rcases(show b1=false\/(b1=true/\b2=false)\/(b1=true/\b2=true) by cases b1<;>cases b2<;>simp) with rfl|⟨rfl,rfl⟩|⟨rfl,rfl⟩
    case' inl=>
     refine Cs [13,14,15,16,17,18,19,20,21,22,23,24,25,26,27,28,29,30,31,32,33,34,35] ?_;refine Cp 0 13 [] ?_;refine Cp 1 14 [] ?_;refine Cp 2 15 [1,0] ?_;refine Cq (V5 N) 3 16 [2] ?_;refine Cc 4 17 [3] (fun y w h _=>J _) ?_;refine Cp 5 18 [4] ?_;refine Cp 6 19 [5] ?_;refine Cz 7 20 [6] ?_;refine Cz 8 21 [6] ?_;refine Cz 9 22 [6] ?_;refine Cz 10 23 [6] ?_;refine Cz 11 24 [6] ?_;refine Cz 12 25 [6] ?_;refine Cz 13 26 [6] ?_;refine Cp 14 27 [6,13] ?_;refine Cp 15 28 [14] ?_;refine Cz 16 29 [15] ?_;refine Cz 17 30 [15] ?_;refine Cz 18 31 [15] ?_;refine Cz 19 32 [15] ?_;refine Cz 20 33 [15] ?_;refine Cz 21 34 [15] ?_;refine Cp 22 35 [15,21] ?_;refine Ce (fun y Q m H=>?_)
    case' inr.inl=>
     refine Cs [13,14,15,16,17,18,19,20,21,22,23,24,25,26,27,28,29,30,31,32,33,34,35] ?_;refine Cp 0 13 [] ?_;refine Cp 1 14 [] ?_;refine Cp 2 15 [1,0] ?_;refine Cq (V5 N) 3 16 [2] ?_;refine Cc 4 17 [3] (fun y w h _=>J _) ?_;refine Cp 5 18 [4] ?_;refine Cp 6 19 [5] ?_;refine Cl (x:=.tmp 6) 7 20 [6] (fun y w _ u P=>⟨Zf M.o.range P,rfl⟩) underlying38 Zq ?_;refine Cp 8 21 [6] ?_;refine Cp 9 22 [6] ?_;refine Cp 10 23 [9,8,6] ?_;refine Cq (V5 E) 11 24 [10,6] ?_;refine Cc 12 25 [7,11,6] (fun y w h _=>hc _) ?_;refine Cp 13 26 [12,6] ?_;refine Cp 14 27 [6,13] ?_;refine Cp 15 28 [14] ?_;refine Cz 16 29 [15] ?_;refine Cz 17 30 [15] ?_;refine Cz 18 31 [15] ?_;refine Cz 19 32 [15] ?_;refine Cz 20 33 [15] ?_;refine Cz 21 34 [15] ?_;refine Cp 22 35 [15,21] ?_;refine Ce (fun y Q m H=>?_)
    case inr.inr=>
     refine Cs [13,14,15,16,17,18,19,20,21,22,23,24,25,26,27,28,29,30,31,32,33,34,35] ?_;refine Cp 0 13 [] ?_;refine Cp 1 14 [] ?_;refine Cp 2 15 [1,0] ?_;refine Cq (V5 N) 3 16 [2] ?_;refine Cc 4 17 [3] (fun y w h _=>J _) ?_;refine Cp 5 18 [4] ?_;refine Cp 6 19 [5] ?_;refine Cl (x:=.tmp 6) 7 20 [6] (fun y w _ u P=>⟨Zf M.o.range P,rfl⟩) underlying38 Zq ?_;refine Cp 8 21 [6] ?_;refine Cp 9 22 [6] ?_;refine Cp 10 23 [9,8,6] ?_;refine Cq (V5 E) 11 24 [10,6] ?_;refine Cc 12 25 [7,11,6] (fun y w h _=>hc _) ?_;refine Cp 13 26 [12,6] ?_;refine Cp 14 27 [6,13] ?_;refine Cp 15 28 [14] ?_;refine Cp 16 29 [15] ?_;refine Cp 17 30 [15] ?_;refine Cp 18 31 [17,16,15] ?_;refine Cq (V5 W) 19 32 [18,15] ?_;refine Cc 20 33 [19,15] (fun y w h _=>hn _) ?_;refine Cp 21 34 [20,15] ?_;refine Cp 22 35 [15,21] ?_;refine Ce (fun y Q m H=>?_);have X:=Za m;clear m H;go_simp;have m:=X.o;clear X;generalize Q=v2 at m|-;refine Ek ?_
     cases b3
     . go_wp2_with fail;go_ret;exact⟨by rw[Jb9 hi (K.o.trans (by simp))];rfl,Zc Y.o m⟩
     . go_wp2_with fail;go_roundw
       case rel=>exact⟨i+1,by omega,by go_num,fun j A=>if e:j=i then by rw[e,K.o];rfl else T.o j (by omega),Z.o.lq m,Zc Y.o m⟩
       case measure=>simp[intOf];omega
    all_goals
     have X:=Za m;clear m H;go_simp;have m:=X.o;clear X;generalize Q=v2 at m|-;refine Ek ?_;go_wp2_with fail;go_ret;exact⟨by rw[Jb9 hi (K.o.trans (by simp))];rfl,Zc Y.o m⟩
  . obtain rfl:i=2:=by omega
    have ev:=(H.cell (j:=6) rfl).1;have Y:=Za hd;have HE:=Za (Jp5 (T.o 0 (by omega)) (T.o 1 (by omega)));clear H hd;generalize A1 s.v 0 262143=b4 at*
    cases b4
    all_goals
     go_wp2_with (go_at_call 55;refine Sb (hk _) fun v1 F=>?_;replace Y:=Za (Zc Y.o F);clear F);go_ret;exact⟨by rw[HE.o];rfl,Y.o⟩
theorem UW(C:CR)(W:V8)(cf:Nat)(l:List Ft)(ps:V8)(cs:Nat)(y:List Stp)(hc:crE C=0)(hl:l.length<=20)(hn:y.length<=300)(w:V6)(hg:GV w)(hj:CrL w C)(hF:Fts w W l)(hS:Sts w ps y):
 Va 107 #[.agg (crL C).toArray,.slice W l.length cf,.slice ps y.length cs] w (Rt w (A8 (AM C l y))):=by
 have Hc:Hd (fl0 C l y=0):=Za (by unfold fl0;rw[hc,if_neg (by omega)];rfl);have A:=fun u (h:Bw w u)=>N5 C u (hg.lq h) (hj.lq h);rw[hc,Z0] at A;have Hf:=Za (fun k=>KW C (BK l k) (fun i hi=>by have:=(Yl hc hi).1;omega));have Hg:=Za (fun k=>NU C (BI y k) (fun i hi=>by have:=(Yl hc hi).2;omega));have Hh:=Za (fun u (h:Bw w u)=>hF.lq h);have Hi:=Za (fun u (h:Bw w u)=>hS.lq h);have m:=Za (Blk.new w 41 (crL C));have X:=Za (Zb w (.cells (crL C).toArray 41));clear hg hj hF hS hc
 have ho:¬(20:Int)<(l.length:Int):=by omega
 have hp:¬(300:Int)<(y.length:Int):=by omega
 go_enter func107,ntmps107
 go_upto_region 1 with fail;generalize w.alloc (.cells (crL C).toArray 41)=v0 at *;generalize hm:w.heap.size=QK at m|-;clear hm
 go_upto_region 7 with(first
  |(refine Lm 41 (.tmp 3) rfl QK 0 (crL C) m.o.range underlying41 Zr ?_)
  |(go_at_call 56;refine Sb (A _ X.o) fun v1 e=>?_;replace m:=Za (m.o.lq e);replace X:=Za (Zc X.o e);clear e))
 clear A
 go_loopw [30] (fun ix wr=>∃k:Nat,k<=l.length/\ix=Vi k/\fl1 C l y k=0/\Blk 41 wr QK (crL C)/\Bw w wr) (fun ix _=>l.length-(intOf ix).toNat)
 case atStart=>exact⟨0,by omega,rfl,Hc.o,m.o,X.o⟩
 case round=>
  clear m X;obtain⟨k,hk,rfl,P,Q,hd⟩:=hrel;have R:=Za P;clear P
  by_cases hlt:k<l.length
  . obtain⟨b,off,rfl,H⟩:=(Hh.o wr hd).at hlt;have D:=Hf.o k
    have k0:(0:Int)<=(k:Int):=by omega
    have k1:(k:Int)<(l.length:Int):=by omega
    have F:Hd (fl1 C l y (k+1)=ftE C (BK l k)):=Za (if_pos R.o);generalize ftE C (BK l k)=E at *;generalize BK l k=f at *;obtain⟨T,J,K,M,N⟩:=f;have c0:=H 0 _ rfl;have c1:=H 1 _ rfl;have c2:=H 2 _ rfl;have c3:=H 3 _ rfl;have c4:=H 4 _ rfl
    dsimp only at c0 c1 c2 c3 c4
    simp only[Nat.add_zero] at c0;have m:=Za (Q.lq (Zb wr (.cells #[Vi T,Vi J,Vi K,Vi M,Vi N] 64)));have Z:Hd (Blk 64 (wr.alloc (.cells #[Vi T,Vi J,Vi K,Vi M,Vi N] 64)) wr.heap.size [Vi T,Vi J,Vi K,Vi M,Vi N]):=Za (Blk.new wr _ _);have Y:=Za (Zc hd (Zb wr (.cells #[Vi T,Vi J,Vi K,Vi M,Vi N] 64)));clear H Q hd
    go_upto_region 9 with fail;generalize wr.alloc (.cells #[Vi T,Vi J,Vi K,Vi M,Vi N] 64)=v2 at *;clear c0 c1 c2 c3 c4;generalize wr.heap.size=QX at Z|-;have c0:=(Z.o.cell (j:=0) rfl).1;have c1:=(Z.o.cell (j:=1) rfl).1;have c2:=(Z.o.cell (j:=2) rfl).1;have c3:=(Z.o.cell (j:=3) rfl).1;have c4:=(Z.o.cell (j:=4) rfl).1;have ha:∀u,Va 57 #[.agg (crL C).toArray,.agg #[Vi T,Vi J,Vi K,Vi M,Vi N]] u (Rt u (A8 E)):=D;clear D
    by_cases hE:E=0
    case neg=>
     have I:Hd (AM C l y=E):=Za (by rw[<-F.o] at hE|-;unfold AM;have e1:=U2 hE l.length (by omega);have e2:fl2 C l y 0=fl1 C l y (k+1):=e1;rw[<-e2] at hE|-;exact Un hE _ (by omega));rw[Zv hE] at ha
     go_wp2_with (first
      |(refine Lm 41 (.tmp 3) rfl QK 0 (crL C) m.o.range underlying41 Zr ?_)
      |(go_at_call 57;refine Sb (ha _) fun B e=>?_;replace Y:=Za (Zc Y.o e);clear e c0 c1 c2 c3 c4))
     go_ret;exact⟨by rw[I.o,Zv hE];rfl,Y.o⟩
    subst hE;rw[Z0] at ha
    go_wp2_with (first
     |(refine Lm 41 (.tmp 3) rfl QK 0 (crL C) m.o.range underlying41 Zr ?_)
     |(go_at_call 57;refine Sb (ha _) fun B e=>?_;replace m:=Za (m.o.lq e);replace Y:=Za (Zc Y.o e);clear e c0 c1 c2 c3 c4))
    go_roundw
    case rel=>exact⟨k+1,by omega,by go_num,F.o,m.o,Y.o⟩
    case measure=>simp[intOf];omega
  . obtain rfl:k=l.length:=by omega
    have m:=Za Q;have X:=Za hd;clear Q hd
    go_upto_region 14 with fail
    go_loopw [43] (fun ix wr=>∃k:Nat,k<=y.length/\ix=Vi k/\fl2 C l y k=0/\Blk 41 wr QK (crL C)/\Bw w wr) (fun ix _=>y.length-(intOf ix).toNat)
    case atStart=>exact⟨0,by omega,rfl,R.o,m.o,X.o⟩
    case round=>
     clear m X R;obtain⟨k,hk,rfl,P,Q,hd⟩:=hrel;have R:=Za P;clear P
     by_cases hlt:k<y.length
     . obtain⟨b,off,rfl,H⟩:=(Hi.o _ hd).at hlt;have D:=Hg.o k
       have k0:(0:Int)<=(k:Int):=by omega
       have k1:(k:Int)<(y.length:Int):=by omega
       have F:Hd (fl2 C l y (k+1)=AW C (BI y k)):=Za (if_pos R.o);generalize AW C (BI y k)=E at *;generalize BI y k=s at *;have c0:=H 0 _ rfl;have c1:=H 1 _ rfl;have c2:=H 2 _ rfl;have c3:=H 3 _ rfl;have c4:=H 4 _ rfl;have L:=H 5 _ rfl;have O:=H 6 _ rfl;have U:=H 7 _ rfl;simp only[Nat.add_zero] at c0;rename World=>G;have m:=Za (Q.lq (Zb G (.cells #[Vi (s.k 0),Vi (s.k 1),Vi (s.p 0),Vi (s.p 1),Vi (s.z 0),Vi (s.z 1),Vi s.v,.bool s.g] 70)));have Z:Hd (Blk 70 (G.alloc (.cells #[Vi (s.k 0),Vi (s.k 1),Vi (s.p 0),Vi (s.p 1),Vi (s.z 0),Vi (s.z 1),Vi s.v,.bool s.g] 70)) G.heap.size [Vi (s.k 0),Vi (s.k 1),Vi (s.p 0),Vi (s.p 1),Vi (s.z 0),Vi (s.z 1),Vi s.v,.bool s.g]):=Za (Blk.new G _ _);have Y:=Za (Zc hd (Zb G (.cells #[Vi (s.k 0),Vi (s.k 1),Vi (s.p 0),Vi (s.p 1),Vi (s.z 0),Vi (s.z 1),Vi s.v,.bool s.g] 70)));clear H Q hd
       go_upto_region 16 with fail;generalize G.alloc (.cells #[Vi (s.k 0),Vi (s.k 1),Vi (s.p 0),Vi (s.p 1),Vi (s.z 0),Vi (s.z 1),Vi s.v,.bool s.g] 70)=v2 at *;clear c0 c1 c2 c3 c4 L O U;generalize G.heap.size=QX at Z|-;have c0:=(Z.o.cell (j:=0) rfl).1;have c1:=(Z.o.cell (j:=1) rfl).1;have c2:=(Z.o.cell (j:=2) rfl).1;have c3:=(Z.o.cell (j:=3) rfl).1;have c4:=(Z.o.cell (j:=4) rfl).1;have L:=(Z.o.cell (j:=5) rfl).1;have O:=(Z.o.cell (j:=6) rfl).1;have U:=(Z.o.cell (j:=7) rfl).1;have ha:∀u,Va 58 #[.agg (crL C).toArray,.agg #[Vi (s.k 0),Vi (s.k 1),Vi (s.p 0),Vi (s.p 1),Vi (s.z 0),Vi (s.z 1),Vi s.v,.bool s.g]] u (Rt u (A8 E)):=D;clear D
       by_cases hE:E=0
       case neg=>
        have I:Hd (AM C l y=E):=Za (by rw[<-F.o] at hE|-;exact Un hE _ (by omega));rw[Zv hE] at ha
        go_wp2_with (first
         |(refine Lm 41 (.tmp 3) rfl QK 0 (crL C) m.o.range underlying41 Zr ?_)
         |(go_at_call 58;refine Sb (ha _) fun B e=>?_;replace Y:=Za (Zc Y.o e);clear e c0 c1 c2 c3 c4 L O U))
        go_ret;exact⟨by rw[I.o,Zv hE];rfl,Y.o⟩
       subst hE;rw[Z0] at ha
       go_wp2_with (first
        |(refine Lm 41 (.tmp 3) rfl QK 0 (crL C) m.o.range underlying41 Zr ?_)
        |(go_at_call 58;refine Sb (ha _) fun B e=>?_;replace m:=Za (m.o.lq e);replace Y:=Za (Zc Y.o e);clear e c0 c1 c2 c3 c4 L O U))
       go_roundw
       case rel=>exact⟨k+1,by omega,by go_num,F.o,m.o,Y.o⟩
       case measure=>simp[intOf];omega
     . obtain rfl:k=y.length:=by omega
       have X:=Za hd;clear Q hd;have I:Hd (AM C l y=0):=Za R.o;go_wp2_with fail;go_ret;exact⟨by rw[I.o];rfl,X.o⟩
theorem UX{ss:List Stp}(h:fl0 C l ss≠0):AM C l ss=fl0 C l ss:=by
 have y:fl2 C l ss 0=fl0 C l ss:=U2 (k:=0) h l.length (by omega)
 have h2:fl2 C l ss 0≠0:=by rw[y];exact h
 exact(Un h2 _ (by omega)).trans y
theorem KY(C:CR)(Y:V8)(R:Nat)(l:List Ft)(X:V8)(T:Nat)(y:List Stp)(w:V6)(Z:GV w)(ha:CrL w C)(hF:Fts w Y l)(hS:Sts w X y):
 Va 107 #[.agg (crL C).toArray,.slice Y l.length R,.slice X y.length T] w (Rt w (A8 (AM C l y))):=by
 by_cases hc:crE C=0
 case pos=>
  by_cases hn:l.length<=20/\y.length<=300
  . exact UW C Y R l X T y hc hn.1 hn.2 w Z ha hF hS
  have hd:=fun u (h:Bw w u)=>N5 C u (Z.lq h) (ha.lq h);rw[hc,Z0] at hd
  have Q:Hd (AM C l y=2):=Za (by
   have e:fl0 C l y=2:=by unfold fl0;rw[hc,if_pos (by omega)];rfl
   exact(UX (by rw[e];decide)).trans e)
  have j:=Za (Blk.new w 41 (crL C));have m:=Za (Zb w (.cells (crL C).toArray 41));clear Z ha hF hS hc
  go_enter func107,ntmps107
  go_upto_region 1 with fail;generalize w.alloc (.cells (crL C).toArray 41)=v0 at *;generalize G:w.heap.size=QK at j|-;clear G
  rcases(show(20:Int)<(l.length:Int)\/(¬(20:Int)<(l.length:Int)/\(300:Int)<(y.length:Int)) by omega) with h1|⟨h1,h2⟩
  all_goals
   clear hn
   go_wp2_with (first
    |(refine Lm 41 (.tmp 3) rfl QK 0 (crL C) j.o.range underlying41 Zr ?_)
    |(go_at_call 56;refine Sb (hd _ m.o) fun v1 H=>?_;replace j:=Za (j.o.lq H);replace m:=Za (Zc m.o H);clear H))
   go_ret;exact⟨by rw[Q.o];rfl,m.o⟩
 case neg=>
  have hd:=fun u (h:Bw w u)=>N5 C u (Z.lq h) (ha.lq h);rw[Zv hc] at hd
  have Q:Hd (AM C l y=crE C):=Za (by
   have e:fl0 C l y=crE C:=by unfold fl0;simp[Zk,hc]
   exact(UX (by rw[e];exact hc)).trans e)
  have j:=Za (Blk.new w 41 (crL C));have m:=Za (Zb w (.cells (crL C).toArray 41));clear Z ha hF hS;generalize crE C=E at*
  go_enter func107,ntmps107
  go_upto_region 1 with fail;generalize w.alloc (.cells (crL C).toArray 41)=v0 at *;generalize G:w.heap.size=QK at j|-;clear G
  go_wp2_with (first
   |(refine Lm 41 (.tmp 3) rfl QK 0 (crL C) j.o.range underlying41 Zr ?_)
   |(go_at_call 56;refine Sb (hd _ m.o) fun v1 H=>?_;replace j:=Za (j.o.lq H);replace m:=Za (Zc m.o H);clear H))
  go_ret;exact⟨by rw[Q.o,Zv hc];rfl,m.o⟩
theorem Jmt(C:CR)(m:V8)(H:Nat)(l:List Ft)(e:V8)(Z:Nat)(y:List Stp)(R:AM C l y≠0)(w:V6)(Y:GV w)(ha:CrL w C)(hF:Fts w m l)(hS:Sts w e y):
 Va 60 #[.agg (crL C).toArray,.slice m l.length H,.slice e y.length Z] w (Rt w (.tuple #[.slice none 0 0,A8 (AM C l y)])):=by
 have X:=Za (fun u (h:Bw w u)=>KY C m H l e Z y u (Y.lq h) (ha.lq h) (hF.lq h) (hS.lq h));have Q:=Za (Blk.new w 41 (crL C));have j:=Za (Zb w (.cells (crL C).toArray 41));rw[Zv R] at X|-;clear Y ha hF hS;generalize AM C l y=E at*
 go_enter func60,ntmps60
 go_upto_region 1 with fail;generalize w.alloc (.cells (crL C).toArray 41)=v0 at *;generalize hc:w.heap.size=QK at Q|-;clear hc
 go_wp2_with (first
  |(refine Lm 41 (.tmp 3) rfl QK 0 (crL C) Q.o.range underlying41 Zr ?_)
  |(go_at_call 107;refine Sb (X.o _ j.o) fun v1 G=>?_;replace j:=Za (Zc j.o G);clear G))
 go_ret2;exact⟨rfl,j.o⟩
structure Dk where
 a:Nat->Nat->Int
 ft:List Ft
 st:List Stp
 rp:List Rp
def UC(a:Nat->Nat->Int)(g:Nat->Nat):CR:=⟨a,fun i=>some (Ad (g (2*i)) 0),fun i=>some (Ad (g (2*i+1)) 0),fun _=>[0,300],fun i=>if i=0 then[40,20] else[60,30],fun _=>2,fun _=>2,10,3⟩
theorem Joa(a:Nat->Nat->Int)(g h:Nat->Nat):crE (UC a g)=crE (UC a h):=rfl
theorem Job(a:Nat->Nat->Int)(g h:Nat->Nat)(f:Ft):ftE (UC a g) f=ftE (UC a h) f:=rfl
theorem Joc(a:Nat->Nat->Int)(g h:Nat->Nat)(s:Stp):AW (UC a g) s=AW (UC a h) s:=rfl
theorem Ji2(a:Nat->Nat->Int)(g h:Nat->Nat)(l:List Ft)(ss:List Stp):AM (UC a g) l ss=AM (UC a h) l ss:=by kernel_rfl
theorem Jod(a:Nat->Nat->Int)(g h:Nat->Nat)(l:List Ft)(ss:List Stp)(n:Nat):rpU (UC a g) l ss n=rpU (UC a h) l ss n:=by kernel_rfl
def rpV(r:Rp):List Int:=[r.x 0,r.x 1,r.n,r.l 0,r.l 1,r.s 0,r.s 1]
def RpI(r:Rp):Prop:=∀n∈rpV r,-2000000<=n/\n<=2000000
structure DI (d:Dk) (m:Nat):Prop where
 a:∀i k,-10000000000<=d.a i k/\d.a i k<=10000000000
 ft:d.ft.length<=m
 st:d.st.length<=300*m
 rp:∀r∈d.rp,RpI r
 rn:d.rp.length<=300
abbrev FtR:=Row ftL 5 64
abbrev StR:=Row A6 8 70
abbrev RpR:=Row rpL 15 75
def tD(b:Bool):TypeId:=if b then 82 else 49
def dkL(b:Bool)(cr:List Value)(sf ss sr:Value):List Value:=if b then[sf,ss]++cr++[sr] else cr++[sf,ss,sr]
structure PD (b:Bool) (K D:Nat) (g:Nat->Nat) (d:Dk) (sf ss sr:Value) (u:V6):Prop where
 kd:K<=D
 gk:∀i,i<4->g i<K
 ln:CrL u (UC d.a g)
 bk:Blk (tD b) u D (dkL b (crL (UC d.a g)) sf ss sr)
 ft:FtR K u sf d.ft
 st:StR K u ss d.st
 rp:RpR K u sr d.rp
theorem KZ(r:Ft):(ftL r).length=5:=rfl
theorem Uo(r:Stp):(A6 r).length=8:=rfl
theorem U3(r:Rp):(rpL r).length=15:=rfl
theorem FtR.fts{a:V8}(h:FtR K u (.slice a n c) l):Fts u a l:=by
 by_cases h0:l=[]
 . exact .inl h0
 . obtain⟨g,e,_,hc⟩:=Row.at KZ h h0;exact .inr ⟨g,0,e,fun k hk=>by rw[Nat.zero_add];exact hc k _ (by unfold BK;rw[List.getD_eq_getElem?_getD,List.getElem?_eq_getElem hk];rfl)⟩
theorem StR.sts{a:V8}{l:List Stp}(h:StR K u (.slice a n c) l):Sts u a l:=by
 by_cases h0:l=[]
 . exact .inl h0
 . obtain⟨g,e,_,hc⟩:=Row.at Uo h h0;exact .inr ⟨g,0,e,fun k hk=>by rw[Nat.zero_add];exact hc k _ (by unfold BI;rw[List.getD_eq_getElem?_getD,List.getElem?_eq_getElem hk];rfl)⟩
theorem Ji3{g:Nat}{l:V9}(h:Lst u (some (Ad g 0)) l)(y:Below K u v)(j:g<K):Lst v (some (Ad g 0)) l:=by
 rcases h with h|⟨b,o,e,hc⟩
 . exact .inl h
 . cases e
   exact .inr ⟨g,0,rfl,fun k hk=>DE y j (hc k hk)⟩
theorem PV{a:Nat->Nat->Int}{g:Nat->Nat}(h:CrL u (UC a g))(y:Below K u v)(j:∀i,i<4->g i<K):CrL v (UC a g):=fun i hi=>
 have k:=h i hi
 ⟨k.1,k.2.1,k.2.2.1,Ji3 k.2.2.2.1 y (j _ (by omega)),Ji3 k.2.2.2.2 y (j _ (by omega))⟩
section
variable {b : Bool} {K D : Nat} {g : Nat -> Nat} {d : Dk} {sf ss sr : Value} {u v : World}
theorem PD.lq(h:PD b K D g d sf ss sr u)(y:Bw u v):PD b K D g d sf ss sr v:=
 ⟨h.kd,h.gk,h.ln.lq y,h.bk.lq y,h.ft.lq y,h.st.lq y,h.rp.lq y⟩
theorem PD.lt(h:PD b K D g d sf ss sr u):K<=u.heap.size:=Nat.le_trans h.kd (Nat.le_of_lt h.bk.lt)
theorem PD.txt{α:Type}{f:α->List Value}{rs:List α}(h:PD b K D g d sf ss sr u)(y:Row f n 9 K' u s rs)(hK:K<=K')(j:u.grownBy v s.ownBlock):PD b K D g d sf ss sr v:=
 have m:=(y.weak hK).below h.lt j
 ⟨h.kd,h.gk,PV h.ln m h.gk,h.bk.kept (y.weak hK) j (by cases b<;>decide),h.ft.kept y j,h.st.kept y j,h.rp.kept y j⟩
end
section
variable {α : Type} {f : α -> List Value} {m : Nat} {t t' : TypeId} {K D j : Nat} {u : World} {s x : Value} {rs : List α} {cs : List Value}
theorem Row.set(h:Row f m t K u s rs)(k:Blk t' u D cs)(ha:t'≠t):Row f m t K (u.setCell (Ad D j) x) s rs:=by
 refine⟨h.1,?_⟩
 rcases h.2 with h2|⟨g,cap,hc,e,H,y,h3⟩
 . exact .inl h2
 . refine .inr ⟨g,cap,hc,e,H,(heap_setCell_other u ⟨D,j,none⟩ g x (fun w=>?_)).trans y,h3⟩;simp only at w;subst w;rw[k] at y
   cases y
   exact ha rfl
end
section
variable {b : Bool} {K D : Nat} {g : Nat -> Nat} {d d' : Dk} {sf ss sr sf' ss' sr' : Value} {u v : World}
theorem PD.upd(h:PD b K D g d sf ss sr u)(ha:d'.a=d.a)(hk:Blk (tD b) v D (dkL b (crL (UC d.a g)) sf' ss' sr'))(y:Below K u v)(h1:FtR K v sf' d'.ft)(h2:StR K v ss' d'.st)(h3:RpR K v sr' d'.rp):PD b K D g d' sf' ss' sr' v:=
 ⟨h.kd,h.gk,by rw[ha];exact PV h.ln y h.gk,by rw[ha];exact hk,h1,h2,h3⟩
end
theorem Jen(K D:Nat)(g:Nat->Nat)(d:Dk)(sf ss sr ws:Value)(w:V6)(h:PD true K D g d sf ss sr w):
 Va 36 #[Ve D 0,ws] w fun e w'=>e=.returned (.tuple #[.string okS,.nilIface])/\PD true K D g ⟨d.a,[],[],[]⟩ (.slice none 0 0) (.slice none 0 0) (.slice none 0 0) w'/\Dt K w w':=by
 have c0:=h.bk.cell (j:=0) rfl;have c1:=h.bk.cell (j:=1) rfl;have c2:=h.bk.cell (j:=34) rfl;obtain⟨c0,Z⟩:=c0;obtain⟨c1,Y⟩:=c1;obtain⟨c2,X⟩:=c2;have H:=Za h;clear h
 go_enter func36,ntmps36
 go_wp2_with fail;go_ret2;have h:=H.o;have ha:=h.bk.set 0 (.slice none 0 0);have y:=ha.set 1 (.slice none 0 0);have hc:=y.set 34 (.slice none 0 0);have d3:=((((Dt.refl K w).set (j:=0) (x:=.slice none 0 0) h.bk h.kd).set (j:=1) (x:=.slice none 0 0) ha h.kd).set (j:=34) (x:=.slice none 0 0) y h.kd);exact⟨rfl,h.upd rfl hc (d3.below h.lt) (Row.nil _ _ _ _ _) (Row.nil _ _ _ _ _) (Row.nil _ _ _ _ _),d3⟩
theorem PW{a:V8}(h:ZS w a n):VLs w a (List.replicate n svD):=by
 rcases h with rfl|⟨b,off,e,hc⟩
 . exact .inl rfl
 . refine .inr ⟨b,off,e,fun k hk=>?_⟩;rw[List.length_replicate] at hk;rw[Ziv];exact hc k hk
def Jp8{α:Type}(a b:α)(i:Nat):α:=if i=0 then a else b
def zT(j m h y:Nat):FS:=⟨fun _=>zB0,Jp8 (some (Ad j 0)) (some (Ad m 0)),Jp8 h y,Jp8 h y,fun _=>(0,0,0),0⟩
theorem Jr5(C:CR)(hc:crE C=0)(w:V6)(Z:GV w)(hl:CrL w C):
 Va 108 #[.agg (crL C).toArray] w fun e w'=>(∃T,e=.returned (.tuple #[.agg (stL T).toArray,.nilIface])/\SaS T (q0 C).S/\SvL w' T (q0 C).sv)/\Bw w w':=by
 have r0:=(Yl hc (i:=0) (by omega)).1;have r1:=(Yl hc (i:=1) (by omega)).1;have h:=Ji6 (C.a 0 0) (C.a 0 1) (C.a 0 2) (C.a 0 3) (C.a 0 4) (C.a 0 5) (C.a 0 6) (C.a 0 7) (C.a 0 8) (C.a 0 9) (C.a 0 10) (C.a 0 11) (C.a 0 14) (C.p 0) (C.q 0) (C.al 0) (C.zl 0) (C.cn 0) (C.cm 0) (C.a 1 0) (C.a 1 1) (C.a 1 2) (C.a 1 3) (C.a 1 4) (C.a 1 5) (C.a 1 6) (C.a 1 7) (C.a 1 8) (C.a 1 9) (C.a 1 10) (C.a 1 11) (C.a 1 14) (C.p 1) (C.q 1) (C.al 1) (C.zl 1) (C.cn 1) (C.cm 1) C.c0 C.c1 r0 r1 w Z (hl 0 (by omega)) (hl 1 (by omega)) hc;refine h.mono ?_;rintro e w' ⟨m,H,y,j,⟨G,R⟩,rfl,Y,X,Q⟩;refine⟨⟨zT m H y j,rfl,⟨rfl,rfl,rfl⟩,fun i hi=>?_⟩,Q⟩;have ha:∀n:Nat,(List.replicate n svD).length=n:=fun n=>List.length_replicate
 rcases Qtw i with rfl|rfl
 . show y=(List.replicate (C.a 0 4).toNat svD).length/\(List.replicate (C.a 0 4).toNat svD).length<=9/\VLs w' (some (Ad m 0)) (List.replicate (C.a 0 4).toNat svD)
   rw[ha,show(C.a 0 4).toNat=y by omega];exact⟨rfl,by omega,PW Y⟩
 . show j=(List.replicate (C.a 1 4).toNat svD).length/\(List.replicate (C.a 1 4).toNat svD).length<=9/\VLs w' (some (Ad H 0)) (List.replicate (C.a 1 4).toNat svD)
   rw[ha,show(C.a 1 4).toNat=j by omega];exact⟨rfl,by omega,PW X⟩
def Jmu(l:List Rp):List Value:=l.flatMap rpL
theorem Jeo(l:List Rp)(r:Rp):Jmu (l++[r])=Jmu l++rpL r:=by simp[Jmu]
theorem Jmv(r:Rp):∀v∈rpL r,v.oneCell'=true:=by
 intro v h;have:(rpL r).all (·.oneCell')=true:=rfl;exact List.all_eq_true.1 this v h
theorem Jmw:(prog.info? 75).map (fun i=>(i.zero,i.size,i.bytes))=some (some (.agg Qbm),15,120):=by kernel_rfl
theorem Jep:prog.underlying 47=some (.slice 75):=by kernel_rfl
def RpO(K:Nat)(u:V6)(s:Value)(h:List Rp):Prop:=u.ownsRow K 75 15 s h.length (Jmu h)
theorem RpO.nil(K:Nat)(u:V6):RpO K u (.slice none 0 0) []:=World.ownsRow_nil _ _ _ _
theorem RpO.lq(h:RpO K u s rs)(y:Bw u u'):RpO K u' s rs:=Xc h y
theorem RpO.oth(h:RpO K u s rs)(j:B<K)(ho:Oth u u' B):RpO K u' s rs:=
 World.ownsRow.kept h ho.grown (by
  cases e:s.ownBlock with
  |none=>exact .inl rfl
  |some k=>exact .inr (fun y=>by have:=(World.ownsRow.lt h k e).1;cases y;omega))
theorem L0{o:Oper}{r:Rp}{p:V8}(m e:Operand)(ho:o.op=.call { callee:=.builtin .append,args:=#[m,e],argTypes:=#[47,47] })(hx:a.eval e=.slice p 1 c)(ha:RpO K u s rs)(hK:K<=u.heap.size)(hy:Lay u p (rpL r))(Y:rs.length<=1000)(h:∀j y,RpO K y j (rs++[r])->u.grownBy y s.ownBlock->wpList prog ops Q rest (a.put o.dst j) y)(w:o.guard=none:=by rfl)(hs:a.eval m=s:=by rfl):wpList prog ops Q (o::rest) a u:=by
 obtain⟨X,hc,hd,H,Z⟩:=info_parts Jmw;refine Mf m e ho Jep hc hd H Z hx ha hy (U3 r) (Jmv r) (by unfold maxLen;omega) (by omega) hK (fun j y h1 h2=>h j y ?_ h2) (by decide) rfl w hs
 unfold RpO
 rw[List.length_append,Jeo];exact h1
theorem Ji7(w:V6)(r:Rp):Lay (w.alloc (.cells (rpL r).toArray 75)) (some (Ad w.heap.size 0)) (rpL r):=.inr ⟨_,0,rfl,(Blk.new w 75 (rpL r)).range⟩
theorem CH(C:CR)(l:List Ft)(h:List Stp):∀n,(rpU C l h n).length=n
 |0=>rfl
 |n+1=>by rw[rpU,List.length_append,CH C l h n];rfl
theorem Ji8{q:FT}(h:SaS T q.S):rpF ⟨T,q.sv,q.x,q.at'⟩=rpF q:=by
 unfold rpF
 dsimp only
 rw[h.1,h.2.2]
theorem RpO.weak(h:RpO K u s rs)(hK:K'<=K):RpO K' u s rs:=by
 refine⟨h.1,?_⟩
 rcases h.2 with h|⟨g,cap,ha,h1,h2,h3⟩
 . exact .inl h
 . exact .inr ⟨g,cap,ha,h1,Nat.le_trans hK h2,h3⟩
theorem Oth.grew(h:Oth w u B)(y:u.grownBy u' row)(j:∀g,row=some g->w.heap.size<=g):Oth w u' B:=
 ⟨Nat.le_trans h.1 y.size,y.os.trans h.2.1,y.tape.trans h.2.2.1,y.output.trans h.2.2.2.1,fun b h1 h2=>(y.block b (Nat.lt_of_lt_of_le h1 h.1) (fun e=>by have:=j b e.symm;omega)).trans (h.2.2.2.2 b h1 h2)⟩
theorem Ji9{sv:Nat->List Sv}(h:SvL u T sv)(y:u.grownBy u' row)(m:∀i,i<2->∀g o,T.sp i=some (Ad g o)->some g≠row):SvL u' T sv:=fun i hi=>by
 refine⟨(h i hi).1,(h i hi).2.1,?_⟩
 rcases(h i hi).2.2 with k|⟨g,o,e,hc⟩
 . exact .inl k
 . exact .inr ⟨g,o,e,fun j w=>⟨y.cell (hc j w).1 (m i hi g o e),y.cell (hc j w).2.1 (m i hi g o e),y.cell (hc j w).2.2 (m i hi g o e)⟩⟩
theorem Jeq(C:CR)(m:V8)(w:Nat)(l:List Ft)(y:List Stp)(hl:l.length<=20)(hn:y.length<=300)(ha:∀n,n<=y.length->GI C n (flU C l y n))(hc:∀k,k<y.length->SA C (BI y k))(B k:Nat)(hk:k<y.length)(T:FS)(Y:SaS T (flU C l y k).S)(u:V6)(X:Blk 198 u B (flL C m l.length w T k (flU C l y k).x (flU C l y k).at'))(Q:Fts u m l)(G:GV u)(hd:CrL u C)(R:SvL u T (flU C l y k).sv)(J:l≠[]->∀g o,m=some (Ad g o)->g≠B):
 Va 109 #[Ve B 0,.agg (A6 (BI y k)).toArray] u fun e w'=>e=.returned .nilIface/\∃j,SaS j (flU C l y (k+1)).S/\Blk 198 w' B (flL C m l.length w j ((k+1:Nat):Int) (flU C l y (k+1)).x (flU C l y (k+1)).at')/\SvL w' j (flU C l y (k+1)).sv/\SpN j u.heap.size/\Oth u w' B:=by
 have H:=ha k (by omega);have st:stE C T (flU C l y k).sv=0:=(KL Y).trans H.st;have h:=Jel B C m w l k ⟨T,(flU C l y k).sv,(flU C l y k).x,(flU C l y k).at'⟩ (BI y k) u X Q (by omega) (by omega) (hc k hk) (fun i hi=>by have:=H.x i hi;show _<=(flU C l y k).x i/\(flU C l y k).x i<=_;omega) H.at4 G hd R st J;obtain⟨Z,K,M,N⟩:=NT (C:=C) (l:=l) (now:=(k:Int)) (s:=BI y k) Y;rw[K,M,N] at h;refine h.mono ?_;rintro e w' ⟨P,j,h1,h2,h3,h4,h5⟩;refine⟨P,j,⟨h1.1.trans Z.1,h1.2.1.trans Z.2.1,h1.2.2.trans Z.2.2⟩,?_,h3,h4,h5⟩;rw[show((k+1:Nat):Int)=(k:Int)+1 by omega];exact h2
theorem Jca(R:Rp):List.foldl (fun(h:Array Value) (x:Value×Nat)=>h.setIfInBounds x.snd x.fst) Qbm (rpL R).zipIdx=(rpL R).toArray:=by kernel_rfl
theorem Jmx(C:CR)(p:V8)(n c:Nat)(T:FS)(w:V6):(Instr.build 198 #[(0,.agg (crL C).toArray),(1,.slice p n c),(2,.agg (stL T).toArray)]).run prog w=.ok (.agg (flL C p n c T 0 (fun _=>0) (fun _ _=>0)).toArray) w:=by kernel_rfl
theorem L2{op:Oper}(C:CR)(p:V8)(n c:Nat)(T:FS)(x y z:Operand)(ha:op.guard=none)(ho:op.op=.build 198 #[(0,x),(1,y),(2,z)])(hx:a.eval x=.agg (crL C).toArray)(hy:a.eval y=.slice p n c)(j:a.eval z=.agg (stL T).toArray)(h:wpList prog ops Q rest (a.put op.dst (.agg (flL C p n c T 0 (fun _=>0) (fun _ _=>0)).toArray)) w):wpList prog ops Q (op::rest) a w:=by
 refine wpList_plain ha fun _ hK=>?_
 unfold Oper.wp execOp
 simp only[ho,List.map_toArray,List.map_cons,List.map_nil,hx,hy,j,Sem.run_bind,Jmx,Result.andThen_ok];exact hK _ _ h
theorem Jja(C:CR)(j:V8)(e:Nat)(l:List Ft)(m:V8)(H:Nat)(y:List Stp)(h:AM C l y=0)(w:V6)(Z:GV w)(ha:CrL w C)(hF:Fts w j l)(hS:Sts w m y):
 Va 107 #[.agg (crL C).toArray,.slice j l.length e,.slice m y.length H] w (Rt w .nilIface):=by
 have k:=KY C j e l m H y w Z ha hF hS;rw[h,Z0] at k;exact k
theorem Jp9(C:CR)(Z:V8)(Y:Nat)(l:List Ft)(ps:V8)(cs:Nat)(y:List Stp)(hc:crE C=0)(hf:∀k,k<l.length->Jmp C (BK l k))(hs:∀k,k<y.length->SA C (BI y k))(hl:l.length<=20)(hn:y.length<=300)(w:V6)(M:GV w)(W:CrL w C)(hF:Fts w Z l)(hS:Sts w ps y):
 Va 60 #[.agg (crL C).toArray,.slice Z l.length Y,.slice ps y.length cs] w fun e w'=>(∃s,e=.returned (.tuple #[s,.nilIface])/\RpO w.heap.size w' s (rpU C l y y.length))/\Bw w w':=by
 have Ho:=Za (fun u (h:Bw w u)=>Jja C Z Y l ps cs y (Jp7 ⟨hc,hl,hn,hf,hs⟩) u (M.lq h) (W.lq h) (hF.lq h) (hS.lq h));have Hp:=Za (fun u (h:Bw w u)=>Jr5 C hc u (M.lq h) (W.lq h));have Hm:=Za (PQ (l:=l) hc hs);have Hx:=Za hs;have Hi:=Za M;have Hj:=Za W;have Hk:=Za hF;have Hl:=Za hS;have X:=Za (Blk.new w 41 (crL C));have m:=Za (Zb w (.cells (crL C).toArray 41));clear M W hF hS hf hs hc
 go_enter func60,ntmps60
 go_upto_region 1 with fail;generalize w.alloc (.cells (crL C).toArray 41)=v0 at *;generalize ht:w.heap.size=QK at X|-
 go_upto_region 4 with(first
  |(refine Lm 41 (.tmp 3) rfl QK 0 (crL C) X.o.range underlying41 Zr ?_)
  |(go_at_call 107;refine Sb (Ho.o _ m.o) fun v1 H=>?_;replace X:=Za (X.o.lq H);replace m:=Za (Zc m.o H);clear H))
 go_upto_region 7 with(first
  |(refine Lm 41 (.tmp 3) rfl QK 0 (crL C) X.o.range underlying41 Zr ?_)
  |(go_at_call 108;refine(Hp.o _ m.o).mono ?_;rintro e v2 ⟨⟨T,rfl,L,hh⟩,H⟩;replace X:=Za (X.o.lq H);replace m:=Za (Zc m.o H);have A:=Za L;have E:=Za hh;clear H L hh)
  |(refine Sq 110 _ _ rfl ?_;refine Mm (c':=(stL T).toArray) (.tmp 9) (.tmp 26) rfl rfl rfl rfl rfl rfl (EF T) ?_))
 have Hn:Hd (Blk 110 (v2.alloc (.cells (stL T).toArray 110)) v2.heap.size (stL T)):=Za (Blk.new v2 _ _);replace X:=Za (X.o.lq (Zb v2 (.cells (stL T).toArray 110)));replace E:=Za (E.o.lq (Zb v2 (.cells (stL T).toArray 110)));replace m:=Za (Zc m.o (Zb v2 (.cells (stL T).toArray 110)));generalize v2.alloc (.cells (stL T).toArray 110)=Q at *;generalize v2.heap.size=QT at Hn|-
 go_upto_region 9 with(first
  |(refine Lm 41 (.tmp 3) rfl QK 0 (crL C) X.o.range underlying41 Zr ?_)
  |(refine Lm 110 (.tmp 9) rfl QT 0 (stL T) Hn.o.range underlying110 (Mw T) ?_)
  |(refine L2 C Z l.length Y T (.tmp 31) (.tmp 32) (.tmp 33) rfl rfl rfl rfl rfl ?_))
 have Hq:Hd (Blk 198 (Q.alloc (.cells (flL C Z l.length Y T 0 (fun _=>0) (fun _ _=>0)).toArray 198)) Q.heap.size (flL C Z l.length Y T ((0:Nat):Int) (flU C l y 0).x (flU C l y 0).at')):=Za (Blk.new Q _ _);have J:=Zb Q (.cells (flL C Z l.length Y T 0 (fun _=>0) (fun _ _=>0)).toArray 198);have Hr:Hd (∀i,i<2->1<=((q0 C).sv i).length):=Za (fun i hi=>by have a:=(Hm.o 0 (by omega)).len hi;have b:=(Yl (Hm.o 0 (by omega)).cr hi).1;show 1<=((flU C l y 0).sv i).length;omega);have Hs:Hd (SvN T Q.heap.size):=Za (fun i hi g o e=>Nat.ne_of_lt (YW (E.o i hi).2.2 (Hr.o i hi) g o e));have Ht:=Za (fun z g o e=>Nat.ne_of_lt (Jpu (Hk.o.lq m.o) z g o e));have Hy:=Za (fun z g o e=>Nat.ne_of_lt (Jp0 (Hl.o.lq m.o) z g o e));have Hz:=Za (Jr2 (Hj.o.lq m.o));have HB:Hd (Q.heap.size≠1):=Za (Nat.ne_of_gt (Hi.o.lq m.o).lt);have Hu:=Za m.o.size;replace E:=Za (E.o.lq J);replace m:=Za (Zc m.o J);replace Hi:=Za (Hi.o.lq m.o);replace Hj:=Za (Hj.o.lq m.o);replace Hk:=Za (Hk.o.lq m.o);replace Hl:=Za (Hl.o.lq m.o);have HC:Hd ((Q.alloc (.cells (flL C Z l.length Y T 0 (fun _=>0) (fun _ _=>0)).toArray 198)).heap.size=Q.heap.size+1):=Za (World.size_alloc _ _);clear J X Hn Ho Hp;generalize Q.alloc (.cells (flL C Z l.length Y T 0 (fun _=>0) (fun _ _=>0)).toArray 198)=v4 at *;generalize Q.heap.size=B at*
 go_upto_region 10 with fail
 go_loopw [12,38] (fun rep ix wr=>∃(k:Nat) (T:FS),k<=y.length/\ix=Vi k/\SaS T (flU C l y k).S/\Blk 198 wr B (flL C Z l.length Y T k (flU C l y k).x (flU C l y k).at')/\SvL wr T (flU C l y k).sv/\SvN T B/\RpO (B+1) wr rep (rpU C l y k)/\Oth v4 wr B) (fun _ ix _=>y.length-(intOf ix).toNat)
 case atStart=>exact⟨0,T,by omega,rfl,A.o,Hq.o,E.o,Hs.o,RpO.nil _ _,Oth.refl _ _⟩
 case round=>
  clear A Hq E Hs Hr;obtain⟨k,T,hk,rfl,L,hB,hv,hj,ha,ho⟩:=hrel
  by_cases hlt:k<y.length
  . obtain⟨b,off,rfl,N⟩:=(ho.sts Hy.o Hl.o).at hlt;have O:Hd (∀g,Value.ownBlock u12=some g->B+1<=g/\g<wr.heap.size):=Za (fun g M=>World.ownsRow.lt ha g M);have hm:=fun u (h:Bw wr u)=>Jeq C Z Y l y hl hn Hm.o Hx.o B k hlt T L u (hB.lq h) ((ho.fts Ht.o Hk.o).lq h) ((ho.gv HB.o Hi.o).lq h) ((ho.crl Hz.o Hj.o).lq h) (hv.lq h) Ht.o;have HE:Hd (rpU C l y (k+1)=rpU C l y k++[rpF (flU C l y (k+1))]):=Za rfl;have HD:Hd ((rpU C l y k).length<=1000):=Za (by rw[CH];omega)
    have k0:(0:Int)<=(k:Int):=by omega
    have k1:(k:Int)<(y.length:Int):=by omega
    generalize BI y k=s at *;have c0:=N 0 _ rfl;have c1:=N 1 _ rfl;have c2:=N 2 _ rfl;have c3:=N 3 _ rfl;have c4:=N 4 _ rfl;have c5:=N 5 _ rfl;have c6:=N 6 _ rfl;have c7:=N 7 _ rfl;simp only[Nat.add_zero] at c0;have J:=Zb wr (.cells #[Vi (s.k 0),Vi (s.k 1),Vi (s.p 0),Vi (s.p 1),Vi (s.z 0),Vi (s.z 1),Vi s.v,.bool s.g] 70);have K:Hd (Blk 70 (wr.alloc (.cells #[Vi (s.k 0),Vi (s.k 1),Vi (s.p 0),Vi (s.p 1),Vi (s.z 0),Vi (s.z 1),Vi s.v,.bool s.g] 70)) wr.heap.size [Vi (s.k 0),Vi (s.k 1),Vi (s.p 0),Vi (s.p 1),Vi (s.z 0),Vi (s.z 1),Vi s.v,.bool s.g]):=Za (Blk.new wr _ _);have hp:=hm _ J;have HF:=Za (Nat.lt_of_lt_of_le hB.lt J.size);have P:=Za (ha.lq J);have D:=Za (ho.lq J);replace O:=Za (fun g M=>(show B+1<=g/\g<(wr.alloc (.cells #[Vi (s.k 0),Vi (s.k 1),Vi (s.p 0),Vi (s.p 1),Vi (s.z 0),Vi (s.z 1),Vi s.v,.bool s.g] 70)).heap.size from⟨(O.o g M).1,Nat.lt_of_lt_of_le (O.o g M).2 J.size⟩));clear N hB hv hj ha ho L hm J
    go_upto_region 12 with fail;generalize wr.alloc (.cells #[Vi (s.k 0),Vi (s.k 1),Vi (s.p 0),Vi (s.p 1),Vi (s.z 0),Vi (s.z 1),Vi s.v,.bool s.g] 70)=v5 at *;clear c0 c1 c2 c3 c4 c5 c6 c7;generalize wr.heap.size=QX at K|-;have c0:=(K.o.cell (j:=0) rfl).1;have c1:=(K.o.cell (j:=1) rfl).1;have c2:=(K.o.cell (j:=2) rfl).1;have c3:=(K.o.cell (j:=3) rfl).1;have c4:=(K.o.cell (j:=4) rfl).1;have c5:=(K.o.cell (j:=5) rfl).1;have c6:=(K.o.cell (j:=6) rfl).1;have c7:=(K.o.cell (j:=7) rfl).1;have Hv:Hd (Va 109 #[Ve B 0,.agg #[Vi (s.k 0),Vi (s.k 1),Vi (s.p 0),Vi (s.p 1),Vi (s.z 0),Vi (s.z 1),Vi s.v,.bool s.g]] v5 fun e w'=>e=.returned .nilIface/\∃F,SaS F (flU C l y (k+1)).S/\Blk 198 w' B (flL C Z l.length Y F ((k+1:Nat):Int) (flU C l y (k+1)).x (flU C l y (k+1)).at')/\SvL w' F (flU C l y (k+1)).sv/\SpN F v5.heap.size/\Oth v5 w' B):=Za hp;clear hp
    go_upto_region 15 with(go_at_call 109;refine Hv.o.mono ?_;rintro e v6 ⟨rfl,F,hT',hB',hv',hq,ho'⟩;replace P:=Za (P.o.oth (Nat.lt_succ_self B) ho');replace D:=Za (D.o.trans ho');have A:=Za hT';have I:=Za hB';have U:=Za hv';have Hw:=Za hq;clear hT' hB' hv' hq ho' c0 c1 c2 c3 c4 c5 c6 c7);have hd:=fun u (h:Bw v6 u)=>YV B C Z l.length Y F ((k+1:Nat):Int) (flU C l y (k+1)).x (flU C l y (k+1)).at' (flU C l y (k+1)).sv u (I.o.lq h) (U.o.lq h);rw[Ji8 A.o] at hd;have HG:Hd (B+1<=v6.heap.size):=Za (I.o.lt);clear Hv K;generalize rpF (flU C l y (k+1))=R at *;have hu:=U3 R
    go_wp2_with (first
     |(go_at_call 110;refine Sb (hd _ (Below.refl _ _)) fun v7 H=>?_;replace H:=Zc H (Zb v7 (.cells (rpL R).toArray 75));replace P:=Za (P.o.lq H);replace D:=Za (D.o.lq H);replace I:=Za (I.o.lq H);replace U:=Za (U.o.lq H);have HH:=Za (Ji7 v7 R);have HI:=Za (Nat.le_trans HG.o H.size);clear H)
     |(at_builtin;rw[Jca];refine L0 (.tmp 48) (.tmp 51) rfl rfl P.o HI.o HH.o HD.o (fun s' v9 h1 h2=>?_);replace P:=Za h1;replace D:=Za (D.o.grew h2 (fun g e=>by rw[HC.o];exact(O.o g e).1));replace I:=Za (I.o.grew' h2 (fun e=>by have:=(O.o B e.symm).1;omega));replace U:=Za (Ji9 U.o h2 (fun i hi g o e e2=>by obtain⟨G,e3,h3⟩:=Hw.o i hi;rw[e3] at e;cases e;have:=(O.o _ e2.symm).2;omega));clear h1 h2))
    exact⟨⟨k+1,F,by omega,by go_num,A.o,I.o,U.o,Hw.o.svn HF.o,by rw[HE.o];exact P.o,D.o⟩,by simp[intOf];omega⟩
  . obtain rfl:k=y.length:=by omega
    have P:=Za ha;have D:=Za ho;clear L hB hv hj ha ho;go_wp2_with fail;go_ret2;exact⟨⟨_,rfl,P.o.weak (Nat.le_trans Hu.o (Nat.le_succ B))⟩,m.o.grown D.o.grown m.o.size (fun g e=>by cases e;exact Hu.o)⟩
theorem UY(cr:List Value)(j m y:Value)(h:cr.length=32):((dkL true cr j m y).drop 2).take 32=cr:=by
 show(cr++[y]).take 32=cr
 rw[List.take_append_of_le_length (by omega),List.take_of_length_le (by omega)]
theorem Xz{D:Nat}{cs:List Value}(h:Blk t u D cs)(o n:Nat){ds:List Value}(e:(cs.drop o).take n=ds):u.rangeAt D o ds:=e▸h.sub o n
theorem Jjb(K D:Nat)(g:Nat->Nat)(d:Dk)(e:V8)(H:Nat)(Z:V8)(Y:Nat)(T ws:Value)(X:AM (UC d.a g) d.ft d.st≠0)(w:V6)(Q:GV w)(h:PD true K D g d (.slice e d.ft.length H) (.slice Z d.st.length Y) T w):
 Va 33 #[Ve D 0,ws] w (Rt w (.tuple #[.string ⟨#[]⟩,A8 (AM (UC d.a g) d.ft d.st)])):=by
 have G:=Za (fun u (k:Bw w u)=>Jmt (UC d.a g) e H d.ft Z Y d.st X u (Q.lq k) (h.ln.lq k) (h.ft.fts.lq k) (h.st.sts.lq k));have J:=Za (Xz h.bk 2 32 (UY _ _ _ _ (X4 _)));have c0:=(h.bk.cell (j:=0) rfl).1;have c1:=(h.bk.cell (j:=1) rfl).1;rw[Zv X] at G|-;clear h Q;generalize AM (UC d.a g) d.ft d.st=E at*
 go_enter func33,ntmps33
 go_upto_region 1 with fail;refine Cs [9,10,11,12,13,14,15,16,17,18,19,20,21,22,23,8,24,25,6,7] ?_;refine Cp 0 9 [] ?_;refine Cp 1 10 [0] ?_;refine Cp 2 11 [1] ?_;refine Cl (x:=.tmp 11) 3 12 [2] (fun y w hF u ha=>⟨Zf J.o ha,hF.1⟩) underlying41 Zr ?_;refine Cp 4 13 [] ?_;refine Cp 5 14 [4] ?_;refine Cp 6 15 [5] ?_;refine Cp 7 16 [6] ?_;refine Cq (V5 c0) 8 17 [7] ?_;refine Cp 9 18 [] ?_;refine Cp 10 19 [9] ?_;refine Cp 11 20 [10] ?_;refine Cp 12 21 [11] ?_;refine Cq (V5 c1) 13 22 [12] ?_;refine Cc 14 23 [3,8,13] (fun y w h _=>G.o _ h) ?_;refine Cp 15 8 [14] ?_;refine Cp 16 24 [15] ?_;refine Cp 17 25 [15] ?_;refine Cp 18 6 [16] ?_;refine Cp 19 7 [17] ?_;refine Ce (fun y M m N=>?_);have R:=Za m;clear m N;go_simp;have m:=R.o;clear R;generalize M=v2 at m|-;refine Ek ?_;go_wp2_with fail;go_ret2;exact⟨rfl,m⟩
theorem Jmy(K D:Nat)(g:Nat->Nat)(d:Dk)(X:V8)(Q:Nat)(G:V8)(T:Nat)(A ws:Value)(P:AM (UC d.a g) d.ft d.st=0){a:Addr}(w:V6)(J:GW K a w)(h:PD true K D g d (.slice X d.ft.length Q) (.slice G d.st.length T) A w):
 Va 33 #[Ve D 0,ws] w fun e w'=>e=.returned (.tuple #[.string (itB d.st.length),.nilIface])/\(∃sr',PD true K D g ⟨d.a,d.ft,d.st,rpU (UC d.a g) d.ft d.st d.st.length⟩ (.slice X d.ft.length Q) (.slice G d.st.length T) sr' w')/\Dt K w w':=by
 have ok:=YY P;have C:=Za (fun u (k:Bw w u)=>Jp9 (UC d.a g) X Q d.ft G T d.st ok.cr ok.ft ok.st ok.nl ok.ns u (J.gv.lq k) (h.ln.lq k) (h.ft.fts.lq k) (h.st.sts.lq k));have E:=Za (Xz h.bk 2 32 (UY _ _ _ _ (X4 _)));have c0:=(h.bk.cell (j:=0) rfl).1;have c1:=(h.bk.cell (j:=1) rfl).1;have M:=Za h;have B:=Za J;have hn:=ok.ns;have W:Hd ((rpU (UC d.a g) d.ft d.st d.st.length).length=d.st.length):=Za (CH _ _ _ _);clear h J ok P;generalize rpU (UC d.a g) d.ft d.st d.st.length=R at*
 go_enter func33,ntmps33
 go_upto_region 1 with fail;refine Cs [9,10,11,12,13,14,15,16,17,18,19,20,21,22,23,8,24,25,6,7] ?_;refine Cp 0 9 [] ?_;refine Cp 1 10 [0] ?_;refine Cp 2 11 [1] ?_;refine Cl (x:=.tmp 11) 3 12 [2] (fun y w hF u hc=>⟨Zf E.o hc,hF.1⟩) underlying41 Zr ?_;refine Cp 4 13 [] ?_;refine Cp 5 14 [4] ?_;refine Cp 6 15 [5] ?_;refine Cp 7 16 [6] ?_;refine Cq (V5 c0) 8 17 [7] ?_;refine Cp 9 18 [] ?_;refine Cp 10 19 [9] ?_;refine Cp 11 20 [10] ?_;refine Cp 12 21 [11] ?_;refine Cq (V5 c1) 13 22 [12] ?_;refine Cd 14 23 [3,8,13] (fun v u=>∃s,v=.tuple #[s,.nilIface]/\RpR K u s R) (fun y w h _=>(C.o _ h).mono (by rintro e w' ⟨⟨s,rfl,H⟩,Z⟩;exact⟨_,rfl,⟨s,rfl,(show RpR _ _ _ _ from H).weak (Nat.le_trans M.o.lt h.size)⟩,Z⟩)) (fun _ _ _ ⟨s,h1,h2⟩ Z=>⟨s,h1,h2.lq Z⟩) ?_;refine Cu (fun y=>y 23) 15 8 [14] ?_ (hy:=fun y w _ u=>by go_simp);refine Cu (fun y=>tg (y 8) 0) 16 24 [15,14] ?_ (hy:=fun y w hF u=>by obtain⟨ha,⟨s,e,-⟩,-⟩:=hF;simp only[show y 8=_ from ha.trans e];go_simp;rfl);refine Cu (fun y=>tg (y 8) 1) 17 25 [15,14] ?_ (hy:=fun y w hF u=>by obtain⟨ha,⟨s,e,-⟩,-⟩:=hF;simp only[show y 8=_ from ha.trans e];go_simp;rfl);refine Cu (fun y=>y 24) 18 6 [16] ?_ (hy:=fun y w _ u=>by go_simp);refine Cu (fun y=>y 25) 19 7 [17] ?_ (hy:=fun y w _ u=>by go_simp);refine Ce (fun y u1 N hf=>?_);obtain⟨-,-,-,-,-,⟨s,F,H⟩,-⟩:=hf;simp only[F,tg];obtain⟨Y,cr,rfl⟩:=H.slice;rw[W.o] at H|-;have I:=Za H;have m:=Za (M.o.lq N);have HB:=Za N;clear N H F c0 c1 C E;go_simp;generalize u1=v2 at *;refine Ek ?_;obtain⟨c2,f2⟩:=m.o.bk.cell (j:=34) rfl;have L:=Za (m.o.bk.set 34 (.slice Y d.st.length cr));have O:=Za ((Dt.of HB.o).set (K:=K) (j:=34) (x:=.slice Y d.st.length cr) m.o.bk m.o.kd);have U:=Za (I.o.set (j:=34) (x:=.slice Y d.st.length cr) m.o.bk (by decide));have HQ:=Za (m.o.upd (d':=⟨d.a,d.ft,d.st,R⟩) rfl L.o ((Dt.refl K v2).set (j:=34) (x:=.slice Y d.st.length cr) m.o.bk m.o.kd |>.below m.o.lt) (m.o.ft.set m.o.bk (by decide)) (m.o.st.set m.o.bk (by decide)) U.o);have hd:=CW (d.st.length:Int) ⟨by omega,by omega⟩ _ (B.o.dt O.o)
 go_upto_region 5 with fail;clear c2 f2 I U L m M;generalize v2.setCell _ _=v3 at*
 go_wp2_with (go_at_call 27;refine hd.mono ?_;rintro e v4 ⟨rfl,Z⟩);go_ret2;exact⟨rfl,⟨_,HQ.o.lq Z⟩,O.o.lq Z⟩
def rpD:Rp:=⟨fun _=>0,fun _=>0,fun _=>0,0,fun _ _=>0⟩
section
variable {α : Type} {f : α -> List Value} {m : Nat}
theorem VN(d:α)(h:∀a,(f a).length=m):∀(y:List α) (j i:Nat),j<y.length->i<m->(y.flatMap f)[j*m+i]?=(f (y.getD j d))[i]?
 |[],j,_,w,_=>by simp at w
 |r::t,0,i,_,hi=>by
  have e:(r::t).flatMap f=f r++t.flatMap f:=by simp
  rw[e,Nat.zero_mul,Nat.zero_add,List.getElem?_append_left (by rw[h];exact hi)]
  rfl
 |r::t,j+1,i,w,hi=>by
  have e:(r::t).flatMap f=f r++t.flatMap f:=by simp
  have H:(j+1)*m+i-m=j*m+i:=by rw[Nat.succ_mul];omega
  rw[e,List.getElem?_append_right (by rw[h,Nat.succ_mul];omega),h,H,VN d h t j i (by simpa using w) hi]
  rfl
def RwO(f:α->List Value)(m:Nat)(t:TypeId)(K:Nat)(u:V6)(s:Value)(h:List α):Prop:=u.ownsRow K t m s h.length (h.flatMap f)
theorem RwO.nil(f:α->List Value)(m:Nat)(t:TypeId)(K:Nat)(u:V6):RwO f m t K u (.slice none 0 0) []:=World.ownsRow_nil _ _ _ _
theorem RwO.lq{rs:List α}(h:RwO f m t K u s rs)(y:Bw u u'):RwO f m t K u' s rs:=Xc h y
theorem RwO.slice{rs:List α}(h:RwO f m t K u s rs):∃a c,s=.slice a rs.length c:=by
 rcases h.2 with⟨rfl,e⟩|⟨g,cap,ha,rfl,_⟩
 . exact⟨none,0,by rw[e]⟩
 . exact⟨_,cap,rfl⟩
theorem RwO.at(d:α)(y:∀a,(f a).length=m){a:V8}{rs:List α}(h:RwO f m t K u (.slice a n c) rs)(h0:rs≠[]):∃g,a=some (Ad g 0)/\∀j,j<rs.length->u.rangeAt g (j*m) (f (rs.getD j d)):=by
 rcases h.2 with⟨_,e⟩|⟨g,cap,hc,e,_,Y,h1,h2,h3,h4⟩
 . exact absurd (List.eq_nil_of_length_eq_zero e) h0
 . simp only[Value.slice.injEq] at e;refine⟨g,e.1,fun j w i v H=>?_⟩
   have hi:i<m:=by
    have:=(List.getElem?_eq_some_iff.1 H).1;rw[y] at this;exact this
   have ha:j*m+i<rs.length*m:=by
    have:(j+1)*m<=rs.length*m:=Nat.mul_le_mul_right m w;rw[Nat.succ_mul] at this
    omega
   have Z:=VN d y rs j i w hi;rw[<-h4,List.getElem?_take_of_lt ha,Array.getElem?_toList,H] at Z;simp only[World.cell?,Y];simp only[Option.isSome_none,Bool.false_eq_true,if_false];exact Z
end
section
variable {w u u' : World} {C : CR} {O : Nat} {a : Option Addr} {l : List Int} {cap q : Nat} {s : Value} {ls : List Ft}
end
theorem Jkh(C:CR)(i:Nat)(h0:0<=C.a i 2)(h1:C.a i 2<=1000)(w:V6):Va 48 #[.agg (axL C i).toArray] w (Rt w (Vi (2*C.a i 2+1))):=by
 have v1:=Wr (2*C.a i 2);have v2:=Wr (2*C.a i 2+1);have h:=Za (Zb w (.cells (axL C i).toArray 38));have m:=((Blk.new w 38 (axL C i)).cell (j:=2) rfl).1
 go_enter func48,ntmps48
 go_upto_region 1 with fail;generalize w.alloc (.cells (axL C i).toArray 38)=v0 at *;generalize e:w.heap.size=Q at m|-;go_wp2_with fail;go_ret;rw[<-e];exact⟨rfl,h.o⟩
section
variable {C : CR} {w u u' : World} {QK QZ O QF QL K : Nat} {a : Option Addr} {l : List Int} {cap q : Nat} {s : Value} {ls : List Ft} {x y : Int} {v : Value} {ss : List Stp}
end
end Go.Proofs.YtnepnnkdgejheaaGreatDoor
