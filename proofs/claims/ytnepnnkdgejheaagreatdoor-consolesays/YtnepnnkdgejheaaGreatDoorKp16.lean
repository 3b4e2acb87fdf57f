
import Derived.Test.YtnepnnkdgejheaaGreatDoorKp03
set_option maxRecDepth 100000
set_option maxHeartbeats 20000000
namespace Go.Proofs.YtnepnnkdgejheaaGreatDoor
open Go.RowKit Plain Tryz
def Jlp(x y:Int):Int:=min x y
def Jlq(x y:Int):Int:=max x y
theorem Jdz(y:Array TypeId)(t:TypeId)(p q:Int)(w:V6):(Builtin.min_ y t #[Vi p,Vi q]).run prog w=.ok (Vi (Jlp p q)) w:=by
 unfold Jlp;by_cases h:q<p
 . rw[Int.min_eq_right (by omega)];simp[Builtin.min_,Builtin.min2,h]
 . rw[Int.min_eq_left (by omega)];simp[Builtin.min_,Builtin.min2,h]
theorem Jd0(y:Array TypeId)(t:TypeId)(p q:Int)(w:V6):(Builtin.max_ y t #[Vi p,Vi q]).run prog w=.ok (Vi (Jlq p q)) w:=by
 unfold Jlq;by_cases h:p<q
 . rw[Int.max_eq_right (by omega)];simp[Builtin.max_,Builtin.max2,h]
 . rw[Int.max_eq_left (by omega)];simp[Builtin.max_,Builtin.max2,h]
theorem K0(h:Array TypeId)(t:TypeId)(p q:Int)(w:V6):(Builtin.min_ h t #[Vi p,Vi q]).run prog w=.ok (Vi (mnI p q)) w:=by
 rw[Jdz,show Jlp p q=mnI p q by unfold Jlp mnI;split<;>omega]
theorem Jhb(h:Array TypeId)(t:TypeId)(p q:Int)(w:V6):(Builtin.max_ h t #[Vi p,Vi q]).run prog w=.ok (Vi (mxI p q)) w:=by
 rw[Jd0,show Jlq p q=mxI p q by unfold Jlq mxI;split<;>omega]
theorem OZ(b:Int):OC b false=mnI (b+1) 10:=rfl
theorem Ja0(b c:Int):S3 b false c=decide (c<=mnI (b+1) 10):=by rw[S3,OZ];rfl
theorem Jd1(b:Nat->Int)(o:Nat->Bool)(l m c:Int)(t:Nat->Bool)(s:Nat->Int)(hf:Fit t o s)(hb:∀k,k<3->0<=b k/\b k<=10)(ho:-1000000<=l)(hp:l<=1000000)(ht:0<=m)(hu:m<=1000000)(w:V6):
 Va 133 #[.agg (Qar b o l),.agg #[Vi m,Vi c],.agg (Qaw t s)] w
  (Rt w (.tuple #[.agg #[Vi (nbI t o s b (AO t o s l) m 0),Vi (nbI t o s b (AO t o s l) m 1),Vi (nbI t o s b (AO t o s l) m 2),.bool (noB t o s b (AO t o s l) m c 0),.bool (noB t o s b (AO t o s l) m c 1),.bool (noB t o s b (AO t o s l) m c 2),Vi (AO t o s l)],.agg #[Vi (AO t o s l),Vi (Zz t o 3)]])):=by
 have HX:=Za (Jha w b o l m c t s);have U:=Za hf;have Hb:=Za hb;clear hf hb
 go_enter func133,ntmps133
 go_wp2
 go_loopw [8,9,10,11,12] (fun n1 n2 n3 n4 i wr=>∃k:Nat,k<=3/\i=Vi k/\n1=Vi (Zz t o k)/\n2=Vi (Yz t o s k)/\n3=Vi (Y3 t o s k)/\n4=Vi (AL t o s k)/\AZ w wr b o l m c t s) (fun _ _ _ _ i _=>3-(intOf i).toNat)
 case atStart=>exact⟨0,by omega,rfl,rfl,rfl,rfl,rfl,HX.o⟩
 case round=>
  clear HX;obtain⟨k,hk,rfl,rfl,rfl,rfl,rfl,ha⟩:=hrel
  by_cases hlt:k<3
  . have c1:=ha.2.2.1.there k hlt;have c2:=ha.2.2.1.is k hlt;have c3:=ha.1.1.o k hlt;have d1:=JY t o k;have d2:=OW U.o k (by omega);have W:=U.o k hlt;have j:=Za (show Zz t o (k+1)=(if BV t o k then Zz t o k+1 else Zz t o k)/\AL t o s (k+1)=(if BV t o k then AL t o s k+s k else AL t o s k)/\Yz t o s (k+1)=(if BV t o k then mnI (Yz t o s k) (s k) else Yz t o s k)/\Y3 t o s (k+1)=(if BV t o k then mxI (Y3 t o s k) (s k) else Y3 t o s k) from⟨rfl,rfl,rfl,rfl⟩)
    unfold BV at W j
    have h:=Za ha;clear ha
    have i0:(0:Int)<=(k:Int):=by omega
    have i1:(k:Int)<3:=by omega
    generalize Zz t o k=n at *;generalize AL t o s k=q at *;generalize Yz t o s k=p1 at *;generalize Y3 t o s k=p2 at*
    cases h1:t k
    . rw[h1] at c1;rw[h1] at j;clear W;go_wp2;go_roundw
      case rel=>exact⟨k+1,by omega,by go_num,by rw[j.o.1];rfl,by rw[j.o.2.2.1];rfl,by rw[j.o.2.2.2];rfl,by rw[j.o.2.1];rfl,h.o⟩
      case measure=>simp[intOf];omega
    . rw[h1] at c1
      cases h2:o k
      . have hs:=W (by simp[h1,h2]);rw[h2] at c3;rw[h1,h2] at j;clear W;have hj:=K0;have hw:=Jhb
        have hl:=Wr (q+s k)
        generalize s k=z at *;go_wp2
        go_region
        all_goals
         go_wp2;go_roundw
         (case rel=>exact⟨k+1,by omega,by go_num,by rw[j.o.1];rfl,by rw[j.o.2.2.1];rfl,by rw[j.o.2.2.2];rfl,by rw[j.o.2.1];rfl,h.o.lq Vb⟩)
         (case measure=>simp[intOf];omega)
      . rw[h2] at c3;rw[h1,h2] at j;clear W;go_wp2;go_roundw
        case rel=>exact⟨k+1,by omega,by go_num,by rw[j.o.1];rfl,by rw[j.o.2.2.1];rfl,by rw[j.o.2.2.2];rfl,by rw[j.o.2.1];rfl,h.o⟩
        case measure=>simp[intOf];omega
  . have e:k=3:=by omega
    subst e;have d2:=OW U.o 3 (by omega);have d3:=MZ U.o 3 (by omega);have d4:=T7 U.o 3 (by omega);have d1:=JY t o 3;have hv:=OX U.o ho hp;have X:=Za (show AO t o s l=(if Zz t o 3=1 then AL t o s 3 else if Zz t o 3=2 then AL t o s 3/2 else if Zz t o 3=3 then AL t o s 3-Yz t o s 3-Y3 t o s 3 else l) from rfl);rw[show((3:Nat):Int)=3 from rfl];obtain⟨v,hv'⟩:∃v,v=AO t o s l:=⟨_,rfl⟩;rw[<-hv'] at hv X;have Hc:=Za hv';clear hv';have h:=Za ha;obtain⟨q0,T,J,K,q4,M,N⟩:=ha.1.1;clear ha
    rcases(show Zz t o 3=0\/Zz t o 3=1\/Zz t o 3=2\/Zz t o 3=3 by omega) with hn|hn|hn|hn
    case' neg.inr.inr.inr=>
     rw[hn,if_neg (by decide),if_neg (by decide),if_pos rfl] at X;rw[hn]
     have hl:=Wr (AL t o s 3-Yz t o s 3)
     have hq:=Wr (AL t o s 3-Yz t o s 3-Y3 t o s 3)
     go_wp2;have ST2:=Za (h.o.lq (Zb wr (.cells #[Vi (AL t o s 3-Yz t o s 3-Y3 t o s 3),Vi 3] 231)));have Q:Hd (AF (wr.alloc (.cells #[Vi (AL t o s 3-Yz t o s 3-Y3 t o s 3),Vi 3] 231)) wr.heap.size (AL t o s 3-Yz t o s 3-Y3 t o s 3) 3):=⟨by simp[go_sem],by simp[go_sem]⟩
     have G:Hd (w.heap.size≠wr.heap.size):=by have:=h.o.lt;show w.heap.size≠wr.heap.size;omega
     have LT:=Za h.o.lt;generalize (wr.alloc (.cells #[Vi (AL t o s 3-Yz t o s 3-Y3 t o s 3),Vi 3] 231))=w5 at *;generalize P:wr.heap.size=V at *;clear P h q0 T J K q4 M N;obtain⟨n,Y⟩:∃n:Int,n=3:=⟨_,rfl⟩;rw[<-X.o,<-Y] at Q
    case' neg.inr.inr.inl=>
     rw[hn,if_neg (by decide),if_pos rfl] at X;rw[hn]
     go_wp2_with (go_at_call 182;refine Sm (RC _ _ (by omega) (by omega) (by omega) (by omega) _) ?_);have ST2:=Za (h.o.lq (Zb wr (.cells #[Vi (AL t o s 3/2),Vi 2] 231)));have Q:Hd (AF (wr.alloc (.cells #[Vi (AL t o s 3/2),Vi 2] 231)) wr.heap.size (AL t o s 3/2) 2):=⟨by simp[go_sem],by simp[go_sem]⟩
     have G:Hd (w.heap.size≠wr.heap.size):=by have:=h.o.lt;show w.heap.size≠wr.heap.size;omega
     have LT:=Za h.o.lt;generalize (wr.alloc (.cells #[Vi (AL t o s 3/2),Vi 2] 231))=w5 at *;generalize P:wr.heap.size=V at *;clear P h q0 T J K q4 M N;obtain⟨n,Y⟩:∃n:Int,n=2:=⟨_,rfl⟩;rw[<-X.o,<-Y] at Q
    case' neg.inr.inl=>
     rw[hn,if_pos rfl] at X;rw[hn];go_wp2;have ST2:=Za (h.o.lq (Zb wr (.cells #[Vi (AL t o s 3),Vi 1] 231)));have Q:Hd (AF (wr.alloc (.cells #[Vi (AL t o s 3),Vi 1] 231)) wr.heap.size (AL t o s 3) 1):=⟨by simp[go_sem],by simp[go_sem]⟩
     have G:Hd (w.heap.size≠wr.heap.size):=by have:=h.o.lt;show w.heap.size≠wr.heap.size;omega
     have LT:=Za h.o.lt;generalize (wr.alloc (.cells #[Vi (AL t o s 3),Vi 1] 231))=w5 at *;generalize P:wr.heap.size=V at *;clear P h q0 T J K q4 M N;obtain⟨n,Y⟩:∃n:Int,n=1:=⟨_,rfl⟩;rw[<-X.o,<-Y] at Q
    case' neg.inl=>
     rw[hn,if_neg (by decide),if_neg (by decide),if_neg (by decide)] at X;rw[hn];go_wp2;have ST2:=Za (h.o.lq (Zb wr (.cells #[Vi l,Vi 0] 231)));have Q:Hd (AF (wr.alloc (.cells #[Vi l,Vi 0] 231)) wr.heap.size l 0):=⟨by simp[go_sem],by simp[go_sem]⟩
     have G:Hd (w.heap.size≠wr.heap.size):=by have:=h.o.lt;show w.heap.size≠wr.heap.size;omega
     have LT:=Za h.o.lt;generalize (wr.alloc (.cells #[Vi l,Vi 0] 231))=w5 at *;generalize P:wr.heap.size=V at *;clear P h q0 T J K q4 M N;obtain⟨n,Y⟩:∃n:Int,n=0:=⟨_,rfl⟩;rw[<-X.o,<-Y] at Q
    all_goals
     go_loopw [14] (fun i wr2=>∃k:Nat,k<=3/\i=Vi k/\AZ w wr2 (C5 k (nbI t o s b v m) b) (BW k (noB t o s b v m c) o) l m c t s/\AF wr2 V v n) (fun i _=>3-(intOf i).toNat)
     case atStart=>exact⟨0,by omega,rfl,by rw[NA,NC];exact ST2.o,Q.o⟩
     case round=>
      clear ST2 Q
      rename_i w6 _
      obtain⟨k,hk,rfl,ha,A⟩:=hrel
      by_cases hlt:k<3
      . have c1:=ha.2.2.1.there k hlt;have c2:=ha.2.2.1.is k hlt;have c3:=ha.1.1.o k hlt;have c4:=ha.1.1.bad k hlt;have r0:=ha.2.1.1;have r1:=ha.2.1.2;have z1:=ha.1.2.1 k (by omega);have z2:=ha.1.2.1 (3+k) (by omega);have vt:=A.1;rw[DW] at c3;rw[IG] at c4;have bd:=Hb.o k hlt
        have i0:(0:Int)<=(k:Int):=by omega
        have i1:(k:Int)<3:=by omega
        have H:=Za (show nbI t o s b v m k=(if o k then b k else OC (b k) (C2 (t k) (s k) v m))/\noB t o s b v m c k=(if o k then true else S3 (b k) (C2 (t k) (s k) v m) c) from⟨rfl,rfl⟩);have STK:=Za ha;have RK:=Za A;clear ha A
        cases h2:o k
        . rw[h2] at c3;rw[h2] at H
          cases h1:t k
          . rw[h1] at c1;rw[h1] at H;have hj:=K0;have hc:Hd (nbI t o s b v m k=mnI (b k+1) 10):=H.o.1.trans (OZ _);have hd:Hd (noB t o s b v m c k=decide (c<=mnI (b k+1) 10)):=H.o.2.trans (Ja0 _ _);generalize b k=x at *;go_wp2;go_quiet (fail);go_wp2;generalize mnI (x+1) 10=y at*
            go_region
            all_goals
             go_wp2;go_roundw
             (case rel=>
              refine⟨k+1,by omega,by go_num,?_,?_⟩
              . rw[Uy,Uz,hc.o,hd.o];exact((((STK.o.lq (below_drewN (Below.refl _ _) _)).setBad k hlt _).setOut k hlt _).lq Vb)
              . exact(((RK.o.lq (below_drewN (Below.refl _ _) _)).set G.o).set G.o).lq Vb)
             (case measure=>simp[intOf];omega)
          . rw[h1] at c1;rw[h1] at H;have hm:=Nr (s k) (v-m) (v+m);have hi:Hd (C2 true (s k) v m=(decide (v-m<=s k)&&decide (s k<=v+m))):=rfl;generalize (decide (v-m<=s k)&&decide (s k<=v+m))=g at*
            have hl:=Wr (v-m)
            have hq:=Wr (v+m)
            cases g
            . have hj:=K0;have hc:Hd (nbI t o s b v m k=mnI (b k+1) 10):=H.o.1.trans (by rw[hi.o];exact OZ _);have hd:Hd (noB t o s b v m c k=decide (c<=mnI (b k+1) 10)):=H.o.2.trans (by rw[hi.o];exact Ja0 _ _);generalize b k=x at *;generalize s k=z at *;go_wp2;go_quiet ((go_at_call 22;exact Calls.quiet_of_same (hm _)));go_wp2;generalize mnI (x+1) 10=y at*
              go_region
              all_goals
               go_wp2;go_roundw
               (case rel=>
                refine⟨k+1,by omega,by go_num,?_,?_⟩
                . rw[Uy,Uz,hc.o,hd.o];exact((((STK.o.lq (below_drewN (Below.refl _ _) _)).setBad k hlt _).setOut k hlt _).lq Vb)
                . exact(((RK.o.lq (below_drewN (Below.refl _ _) _)).set G.o).set G.o).lq Vb)
               (case measure=>simp[intOf];omega)
            . have hc:Hd (nbI t o s b v m k=0):=H.o.1.trans (by rw[hi.o];rfl);have hd:Hd (noB t o s b v m c k=BW k (noB t o s b v m c) o k):=H.o.2.trans (by rw[hi.o,DW,h2];rfl);generalize b k=x at *;generalize s k=z at *;go_wp2;go_quiet ((go_at_call 22;exact Calls.quiet_of_same (hm _)));go_wp2;go_roundw
              case rel=>
               refine⟨k+1,by omega,by go_num,?_,?_⟩
               . rw[Uy,Uz,hc.o,hd.o,FD];exact(STK.o.lq (below_drewN (Below.refl _ _) _)).setBad k hlt _
               . exact(RK.o.lq (below_drewN (Below.refl _ _) _)).set G.o
              case measure=>simp[intOf];omega
        . rw[h2] at c3;rw[h2] at H;have hc:Hd (nbI t o s b v m k=C5 k (nbI t o s b v m) b k):=H.o.1.trans (by rw[IG];rfl);have hd:Hd (noB t o s b v m c k=BW k (noB t o s b v m c) o k):=H.o.2.trans (by rw[DW,h2];rfl);go_wp2;go_roundw
          case rel=>
           refine⟨k+1,by omega,by go_num,?_,RK.o⟩;rw[Uy,Uz,hc.o,hd.o,ND,FD];exact STK.o
          case measure=>simp[intOf];omega
      . have e:k=3:=by omega
        subst e;have Ha:=Za (ha.setLast v);have N:=ha.1.1.2.2.2.2.2.2;have z6:=ha.1.2.1 6 (by omega);have vt:=A.1;have Hf:=Za (A.set (q:=6) (v:=Vi v) G.o);clear ha A
        go_upto_region 26 with fail;generalize hr:(World.setCell _ _ (Vi v))=w7 at *;clear hr N z6 vt;obtain⟨⟨⟨q0,T,J,K,q4,M,N⟩,_⟩,_,_,⟨⟨s0,s1,s2,s3,s4,s5,s6⟩,R,_⟩,⟨⟨p0,p1⟩,p2,_⟩,hB⟩:=Ha.o;have f0:=R 0 (by omega);have f1:=R 1 (by omega);have f2:=R 2 (by omega);have f3:=R 3 (by omega);have f4:=R 4 (by omega);have f5:=R 5 (by omega);have f6:=R 6 (by omega);have g0:=p2 0 (by omega);have g1:=p2 1 (by omega);obtain⟨v0,v1⟩:=Hf.o;clear hB R p2;rw[show C5 3 (nbI t o s b v m) b 0=nbI t o s b v m 0 from rfl] at q0;rw[show C5 3 (nbI t o s b v m) b 1=nbI t o s b v m 1 from rfl] at T;rw[show C5 3 (nbI t o s b v m) b 2=nbI t o s b v m 2 from rfl] at J;rw[show BW 3 (noB t o s b v m c) o 0=noB t o s b v m c 0 from rfl] at K;rw[show BW 3 (noB t o s b v m c) o 1=noB t o s b v m c 1 from rfl] at q4;rw[show BW 3 (noB t o s b v m c) o 2=noB t o s b v m c 2 from rfl] at M;rw[show zI 0=0 from rfl] at s0;rw[show zI 1=0 from rfl] at s1;rw[show zI 2=0 from rfl] at s2;rw[show zB 0=false from rfl] at s3;rw[show zB 1=false from rfl] at s4;rw[show zB 2=false from rfl] at s5;have EV:=Za (show(v=AO t o s l)/\n=Zz t o 3 from⟨Hc.o,by rw[Y,hn]⟩);obtain⟨D,E,F,I,L,O,Z⟩:∃D E F I L O,Hd (nbI t o s b v m 0=D/\nbI t o s b v m 1=E/\nbI t o s b v m 2=F/\noB t o s b v m c 0=I/\noB t o s b v m c 1=L/\noB t o s b v m c 2=O):=⟨_,_,_,_,_,_,rfl,rfl,rfl,rfl,rfl,rfl⟩;rw[Z.o.1] at q0;rw[Z.o.2.1] at T;rw[Z.o.2.2.1] at J;rw[Z.o.2.2.2.1] at K;rw[Z.o.2.2.2.2.1] at q4;rw[Z.o.2.2.2.2.2] at M;have lt:=LT.o
        have n1:¬(w.heap.size+1+1+1=V):=by omega
        have n2:¬(V=w.heap.size+1+1+1):=by omega
        have n3:¬(w.heap.size+1+1+1+1=V):=by omega
        have n4:¬(V=w.heap.size+1+1+1+1):=by omega
        clear lt
        go_region
        all_goals
         go_wp2;have an:=Za (Jaz Ha.o.2.2.2.1.1 Ha.o.2.2.2.2.1.1 (by omega) D E F I L O v v n);have bl:=Za (JZ Ha.o.2.2.2.2.2 (B:=w.heap.size+1+1+1) (C:=w.heap.size+1+1+1+1) (by omega) (by omega) D E F I L O v v n);rw[Y] at an bl
         change bodyPost _ _ _ Exit.ret _ (FE w7 (w.heap.size+1+1+1) (w.heap.size+1+1+1+1) D E F I L O v v _).drew
         generalize (FE w7 (w.heap.size+1+1+1) (w.heap.size+1+1+1+1) D E F I L O v v _)=w9 at *;obtain⟨⟨c0,c1,c2,c3,c4,c5,c6⟩,d0,d1⟩:=an.o;exact bodyPost_ret (v:=.tuple #[.agg #[Vi D,Vi E,Vi F,.bool I,.bool L,.bool O,Vi v],.agg #[Vi v,Vi n]]) (by rw[Y];simp[results,results133,go_sem,c0,c1,c2,c3,c4,c5,c6,d0,d1]) rfl ⟨by rw[<-EV.o.1,<-EV.o.2,Z.o.1,Z.o.2.1,Z.o.2.2.1,Z.o.2.2.2.1,Z.o.2.2.2.2.1,Z.o.2.2.2.2.2],bl.o.drew⟩
end Go.Proofs.YtnepnnkdgejheaaGreatDoor
