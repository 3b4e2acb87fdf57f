
import Derived.Test.YtnfdfiholcelaaaGreatDoorJh00
import Derived.Test.YtnfdfiholcelaaaGreatDoorJh08
set_option maxRecDepth 100000
set_option maxHeartbeats 20000000
namespace Go.Proofs.YtnfdfiholcelaaaGreatDoor
open Go.RowKit Plain Tryz
def vmnO(x y:Int):Int:=min x y
def vmxO(x y:Int):Int:=max x y
theorem vrun_min2(ts:Array TypeId)(t:TypeId)(p q:Int)(w:World):(Builtin.min_ ts t #[Vi p,Vi q]).run prog w=.ok (Vi (vmnO p q)) w:=by
 unfold vmnO;by_cases h:q<p
 · rw[Int.min_eq_right (by omega)];simp[Builtin.min_,Builtin.min2,h]
 · rw[Int.min_eq_left (by omega)];simp[Builtin.min_,Builtin.min2,h]
theorem vrun_max2(ts:Array TypeId)(t:TypeId)(p q:Int)(w:World):(Builtin.max_ ts t #[Vi p,Vi q]).run prog w=.ok (Vi (vmxO p q)) w:=by
 unfold vmxO;by_cases h:p<q
 · rw[Int.max_eq_right (by omega)];simp[Builtin.max_,Builtin.max2,h]
 · rw[Int.max_eq_left (by omega)];simp[Builtin.max_,Builtin.max2,h]
theorem vrun_min(ts:Array TypeId)(t:TypeId)(p q:Int)(w:World):(Builtin.min_ ts t #[Vi p,Vi q]).run prog w=.ok (Vi (mnI p q)) w:=by
 rw[vrun_min2,show vmnO p q=mnI p q by unfold vmnO mnI;split<;>omega]
theorem vrun_max(ts:Array TypeId)(t:TypeId)(p q:Int)(w:World):(Builtin.max_ ts t #[Vi p,Vi q]).run prog w=.ok (Vi (mxI p q)) w:=by
 rw[vrun_max2,show vmxO p q=mxI p q by unfold vmxO mxI;split<;>omega]
theorem badI_no(b:Int):badI b false=mnI (b+1) 10:=rfl
theorem outB_no(b c:Int):outB b false c=decide (c≤mnI (b+1) 10):=by rw[outB,badI_no];rfl
theorem voted_any(b:Nat→Int)(o:Nat→Bool)(l m c:Int)(t:Nat→Bool)(s:Nat→Int)(hf:Fit t o s)(hb:∀k,k<3→0≤b k∧b k≤10)(hl0:-1000000≤l)(hl1:l≤1000000)(hm0:0≤m)(hm1:m≤1000000)(w:World):
 Calls prog 92 #[.agg #[Vi (b 0),Vi (b 1),Vi (b 2),.bool (o 0),.bool (o 1),.bool (o 2),Vi l],.agg #[Vi m,Vi c],.agg #[.bool (t 0),Vi (s 0),.bool (t 1),Vi (s 1),.bool (t 2),Vi (s 2)]] w
  fun e w'=>e=.returned (.tuple #[.agg #[Vi (nbI t o s b (votI t o s l) m 0),Vi (nbI t o s b (votI t o s l) m 1),Vi (nbI t o s b (votI t o s l) m 2),.bool (noB t o s b (votI t o s l) m c 0),.bool (noB t o s b (votI t o s l) m c 1),.bool (noB t o s b (votI t o s l) m c 2),Vi (votI t o s l)],.agg #[Vi (votI t o s l),Vi (Zcb t o 3)]])∧Below w.heap.size w w':=by
 have HX:=Zab (st_new w b o l m c t s);have HF:=Zab hf;have HBD:=Zab hb;clear hf hb
 go_enter func92,ntmps92
 go_wp2
 go_loopw [8,9,10,11,12] (fun n1 n2 n3 n4 i wr=>∃k:Nat,k≤3∧i=Vi k∧n1=Vi (Zcb t o k)∧n2=Vi (Zci t o s k)∧n3=Vi (Zet t o s k)∧n4=Vi (sumU t o s k)∧StAt w wr b o l m c t s) (fun _ _ _ _ i _=>3-(intOf i).toNat)
 case atStart=>exact⟨0,by omega,rfl,rfl,rfl,rfl,rfl,HX.out⟩
 case round=>
  clear HX;obtain⟨k,hk,rfl,rfl,rfl,rfl,rfl,hst⟩:=hrel
  by_cases hlt:k<3
  · have c1:=hst.2.2.1.there k hlt;have c2:=hst.2.2.1.is k hlt;have c3:=hst.1.1.out k hlt;have d1:=manyU_bd t o k;have d2:=sumU_bd HF.out k (by omega);have hcnt:=HF.out k hlt;have HS:=Zab (show Zcb t o (k+1)=(if cntB t o k then Zcb t o k+1 else Zcb t o k)∧sumU t o s (k+1)=(if cntB t o k then sumU t o s k+s k else sumU t o s k)∧Zci t o s (k+1)=(if cntB t o k then mnI (Zci t o s k) (s k) else Zci t o s k)∧Zet t o s (k+1)=(if cntB t o k then mxI (Zet t o s k) (s k) else Zet t o s k) from⟨rfl,rfl,rfl,rfl⟩)
    unfold cntB at hcnt HS
    have ST:=Zab hst;clear hst
    have i0:(0:Int)≤(k:Int):=by omega
    have i1:(k:Int)<3:=by omega
    generalize Zcb t o k=n at *;generalize sumU t o s k=q at *;generalize Zci t o s k=p1 at *;generalize Zet t o s k=p2 at*
    cases h1:t k
    · rw[h1] at c1;rw[h1] at HS;clear hcnt;go_wp2;go_roundw
      case rel=>exact⟨k+1,by omega,by go_num,by rw[HS.out.1];rfl,by rw[HS.out.2.2.1];rfl,by rw[HS.out.2.2.2];rfl,by rw[HS.out.2.1];rfl,ST.out⟩
      case measure=>simp[intOf];omega
    · rw[h1] at c1
      cases h2:o k
      · have hs:=hcnt (by simp[h1,h2]);rw[h2] at c3;rw[h1,h2] at HS;clear hcnt;have hmn:=vrun_min;have hmx:=vrun_max
        have hw1:IntKind.i64.wrap (q+s k)=q+s k:=by rw[IntKind.wrap_i64];omega
        generalize s k=z at *;go_wp2
        go_region
        all_goals
         go_wp2;go_roundw
         (case rel=>exact⟨k+1,by omega,by go_num,by rw[HS.out.1];rfl,by rw[HS.out.2.2.1];rfl,by rw[HS.out.2.2.2];rfl,by rw[HS.out.2.1];rfl,ST.out.later (Below.refl _ _).drew⟩)
         (case measure=>simp[intOf];omega)
      · rw[h2] at c3;rw[h1,h2] at HS;clear hcnt;go_wp2;go_roundw
        case rel=>exact⟨k+1,by omega,by go_num,by rw[HS.out.1];rfl,by rw[HS.out.2.2.1];rfl,by rw[HS.out.2.2.2];rfl,by rw[HS.out.2.1];rfl,ST.out⟩
        case measure=>simp[intOf];omega
  · have e:k=3:=by omega
    subst e;have d2:=sumU_bd HF.out 3 (by omega);have d3:=leastU_bd HF.out 3 (by omega);have d4:=mostU_bd HF.out 3 (by omega);have d1:=manyU_bd t o 3;have hv:=votI_bd HF.out hl0 hl1;have HV:=Zab (show votI t o s l=(if Zcb t o 3=1 then sumU t o s 3 else if Zcb t o 3=2 then sumU t o s 3/2 else if Zcb t o 3=3 then sumU t o s 3-Zci t o s 3-Zet t o s 3 else l) from rfl);rw[show((3:Nat):Int)=3 from rfl];obtain⟨v,hv'⟩:∃v,v=votI t o s l:=⟨_,rfl⟩;rw[←hv'] at hv HV;have HVE:=Zab hv';clear hv';have ST:=Zab hst;obtain⟨q0,q1,q2,q3,q4,q5,q6⟩:=hst.1.1;clear hst
    rcases(show Zcb t o 3=0∨Zcb t o 3=1∨Zcb t o 3=2∨Zcb t o 3=3 by omega) with hn|hn|hn|hn
    case' neg.inr.inr.inr=>
     rw[hn,if_neg (by decide),if_neg (by decide),if_pos rfl] at HV;rw[hn]
     have hw1:IntKind.i64.wrap (sumU t o s 3-Zci t o s 3)=sumU t o s 3-Zci t o s 3:=by rw[IntKind.wrap_i64];omega
     have hw2:IntKind.i64.wrap (sumU t o s 3-Zci t o s 3-Zet t o s 3)=sumU t o s 3-Zci t o s 3-Zet t o s 3:=by rw[IntKind.wrap_i64];omega
     go_wp2;have ST2:=Zab (ST.out.later (Zaa wr (.cells #[Vi (sumU t o s 3-Zci t o s 3-Zet t o s 3),Vi 3] 187)));have R2:Hid (RuleAt (wr.alloc (.cells #[Vi (sumU t o s 3-Zci t o s 3-Zet t o s 3),Vi 3] 187)) wr.heap.size (sumU t o s 3-Zci t o s 3-Zet t o s 3) 3):=⟨by simp[go_sem],by simp[go_sem]⟩
     have NE:Hid (w.heap.size≠wr.heap.size):=by have:=ST.out.lt;show w.heap.size≠wr.heap.size;omega
     have LT:=Zab ST.out.lt;generalize (wr.alloc (.cells #[Vi (sumU t o s 3-Zci t o s 3-Zet t o s 3),Vi 3] 187))=w5 at *;generalize hV:wr.heap.size=V at *;clear hV ST q0 q1 q2 q3 q4 q5 q6;obtain⟨n,hn3⟩:∃n:Int,n=3:=⟨_,rfl⟩;rw[←HV.out,←hn3] at R2
    case' neg.inr.inr.inl=>
     rw[hn,if_neg (by decide),if_pos rfl] at HV;rw[hn]
     go_wp2_with (go_at_call 141;refine Sm (down_any _ _ (by omega) (by omega) (by omega) (by omega) _) ?_);have ST2:=Zab (ST.out.later (Zaa wr (.cells #[Vi (sumU t o s 3/2),Vi 2] 187)));have R2:Hid (RuleAt (wr.alloc (.cells #[Vi (sumU t o s 3/2),Vi 2] 187)) wr.heap.size (sumU t o s 3/2) 2):=⟨by simp[go_sem],by simp[go_sem]⟩
     have NE:Hid (w.heap.size≠wr.heap.size):=by have:=ST.out.lt;show w.heap.size≠wr.heap.size;omega
     have LT:=Zab ST.out.lt;generalize (wr.alloc (.cells #[Vi (sumU t o s 3/2),Vi 2] 187))=w5 at *;generalize hV:wr.heap.size=V at *;clear hV ST q0 q1 q2 q3 q4 q5 q6;obtain⟨n,hn3⟩:∃n:Int,n=2:=⟨_,rfl⟩;rw[←HV.out,←hn3] at R2
    case' neg.inr.inl=>
     rw[hn,if_pos rfl] at HV;rw[hn];go_wp2;have ST2:=Zab (ST.out.later (Zaa wr (.cells #[Vi (sumU t o s 3),Vi 1] 187)));have R2:Hid (RuleAt (wr.alloc (.cells #[Vi (sumU t o s 3),Vi 1] 187)) wr.heap.size (sumU t o s 3) 1):=⟨by simp[go_sem],by simp[go_sem]⟩
     have NE:Hid (w.heap.size≠wr.heap.size):=by have:=ST.out.lt;show w.heap.size≠wr.heap.size;omega
     have LT:=Zab ST.out.lt;generalize (wr.alloc (.cells #[Vi (sumU t o s 3),Vi 1] 187))=w5 at *;generalize hV:wr.heap.size=V at *;clear hV ST q0 q1 q2 q3 q4 q5 q6;obtain⟨n,hn3⟩:∃n:Int,n=1:=⟨_,rfl⟩;rw[←HV.out,←hn3] at R2
    case' neg.inl=>
     rw[hn,if_neg (by decide),if_neg (by decide),if_neg (by decide)] at HV;rw[hn];go_wp2;have ST2:=Zab (ST.out.later (Zaa wr (.cells #[Vi l,Vi 0] 187)));have R2:Hid (RuleAt (wr.alloc (.cells #[Vi l,Vi 0] 187)) wr.heap.size l 0):=⟨by simp[go_sem],by simp[go_sem]⟩
     have NE:Hid (w.heap.size≠wr.heap.size):=by have:=ST.out.lt;show w.heap.size≠wr.heap.size;omega
     have LT:=Zab ST.out.lt;generalize (wr.alloc (.cells #[Vi l,Vi 0] 187))=w5 at *;generalize hV:wr.heap.size=V at *;clear hV ST q0 q1 q2 q3 q4 q5 q6;obtain⟨n,hn3⟩:∃n:Int,n=0:=⟨_,rfl⟩;rw[←HV.out,←hn3] at R2
    all_goals
     go_loopw [14] (fun i wr2=>∃k:Nat,k≤3∧i=Vi k∧StAt w wr2 (mixI k (nbI t o s b v m) b) (mixB k (noB t o s b v m c) o) l m c t s∧RuleAt wr2 V v n) (fun i _=>3-(intOf i).toNat)
     case atStart=>exact⟨0,by omega,rfl,by rw[mixI_zero,mixB_zero];exact ST2.out,R2.out⟩
     case round=>
      clear ST2 R2
      rename_i w6 _
      obtain⟨k,hk,rfl,hst,hvt⟩:=hrel
      by_cases hlt:k<3
      · have c1:=hst.2.2.1.there k hlt;have c2:=hst.2.2.1.is k hlt;have c3:=hst.1.1.out k hlt;have c4:=hst.1.1.bad k hlt;have r0:=hst.2.1.1;have r1:=hst.2.1.2;have z1:=hst.1.2.1 k (by omega);have z2:=hst.1.2.1 (3+k) (by omega);have vt:=hvt.1;rw[mixB_at] at c3;rw[mixI_at] at c4;have bd:=HBD.out k hlt
        have i0:(0:Int)≤(k:Int):=by omega
        have i1:(k:Int)<3:=by omega
        have HN:=Zab (show nbI t o s b v m k=(if o k then b k else badI (b k) (fineB (t k) (s k) v m))∧noB t o s b v m c k=(if o k then true else outB (b k) (fineB (t k) (s k) v m) c) from⟨rfl,rfl⟩);have STK:=Zab hst;have RK:=Zab hvt;clear hst hvt
        cases h2:o k
        · rw[h2] at c3;rw[h2] at HN
          cases h1:t k
          · rw[h1] at c1;rw[h1] at HN;have hmn:=vrun_min;have hbad:Hid (nbI t o s b v m k=mnI (b k+1) 10):=HN.out.1.trans (badI_no _);have hout:Hid (noB t o s b v m c k=decide (c≤mnI (b k+1) 10)):=HN.out.2.trans (outB_no _ _);generalize b k=x at *;go_wp2;go_quiet (fail);go_wp2;generalize mnI (x+1) 10=y at*
            go_region
            all_goals
             go_wp2;go_roundw
             (case rel=>
              refine⟨k+1,by omega,by go_num,?_,?_⟩
              · rw[Zeh,Zei,hbad.out,hout.out];exact((((STK.out.later (below_drewN (Below.refl _ _) _)).setBad k hlt _).setOut k hlt _).later (Below.refl _ _).drew)
              · exact(((RK.out.later (below_drewN (Below.refl _ _) _)).set NE.out).set NE.out).later (Below.refl _ _).drew)
             (case measure=>simp[intOf];omega)
          · rw[h1] at c1;rw[h1] at HN;have hbt:=Zdp (s k) (v-m) (v+m);have hfn:Hid (fineB true (s k) v m=(decide (v-m≤s k)&&decide (s k≤v+m))):=rfl;generalize (decide (v-m≤s k)&&decide (s k≤v+m))=g at*
            have hw1:IntKind.i64.wrap (v-m)=v-m:=by rw[IntKind.wrap_i64];omega
            have hw2:IntKind.i64.wrap (v+m)=v+m:=by rw[IntKind.wrap_i64];omega
            cases g
            · have hmn:=vrun_min;have hbad:Hid (nbI t o s b v m k=mnI (b k+1) 10):=HN.out.1.trans (by rw[hfn.out];exact badI_no _);have hout:Hid (noB t o s b v m c k=decide (c≤mnI (b k+1) 10)):=HN.out.2.trans (by rw[hfn.out];exact outB_no _ _);generalize b k=x at *;generalize s k=z at *;go_wp2;go_quiet ((go_at_call 38;exact Calls.quiet_of_same (hbt _)));go_wp2;generalize mnI (x+1) 10=y at*
              go_region
              all_goals
               go_wp2;go_roundw
               (case rel=>
                refine⟨k+1,by omega,by go_num,?_,?_⟩
                · rw[Zeh,Zei,hbad.out,hout.out];exact((((STK.out.later (below_drewN (Below.refl _ _) _)).setBad k hlt _).setOut k hlt _).later (Below.refl _ _).drew)
                · exact(((RK.out.later (below_drewN (Below.refl _ _) _)).set NE.out).set NE.out).later (Below.refl _ _).drew)
               (case measure=>simp[intOf];omega)
            · have hbad:Hid (nbI t o s b v m k=0):=HN.out.1.trans (by rw[hfn.out];rfl);have hout:Hid (noB t o s b v m c k=mixB k (noB t o s b v m c) o k):=HN.out.2.trans (by rw[hfn.out,mixB_at,h2];rfl);generalize b k=x at *;generalize s k=z at *;go_wp2;go_quiet ((go_at_call 38;exact Calls.quiet_of_same (hbt _)));go_wp2;go_roundw
              case rel=>
               refine⟨k+1,by omega,by go_num,?_,?_⟩
               · rw[Zeh,Zei,hbad.out,hout.out,updB_same];exact(STK.out.later (below_drewN (Below.refl _ _) _)).setBad k hlt _
               · exact(RK.out.later (below_drewN (Below.refl _ _) _)).set NE.out
              case measure=>simp[intOf];omega
        · rw[h2] at c3;rw[h2] at HN;have hbad:Hid (nbI t o s b v m k=mixI k (nbI t o s b v m) b k):=HN.out.1.trans (by rw[mixI_at];rfl);have hout:Hid (noB t o s b v m c k=mixB k (noB t o s b v m c) o k):=HN.out.2.trans (by rw[mixB_at,h2];rfl);go_wp2;go_roundw
          case rel=>
           refine⟨k+1,by omega,by go_num,?_,RK.out⟩;rw[Zeh,Zei,hbad.out,hout.out,updI_same,updB_same];exact STK.out
          case measure=>simp[intOf];omega
      · have e:k=3:=by omega
        subst e;have HS3:=Zab (hst.setLast v);have q6:=hst.1.1.2.2.2.2.2.2;have z6:=hst.1.2.1 6 (by omega);have vt:=hvt.1;have HV3:=Zab (hvt.set (q:=6) (v:=Vi v) NE.out);clear hst hvt
        go_upto_region 26 with fail;generalize hw7:(World.setCell _ _ (Vi v))=w7 at *;clear hw7 q6 z6 vt;obtain⟨⟨⟨q0,q1,q2,q3,q4,q5,q6⟩,_⟩,_,_,⟨⟨s0,s1,s2,s3,s4,s5,s6⟩,s7,_⟩,⟨⟨p0,p1⟩,p2,_⟩,hB⟩:=HS3.out;have f0:=s7 0 (by omega);have f1:=s7 1 (by omega);have f2:=s7 2 (by omega);have f3:=s7 3 (by omega);have f4:=s7 4 (by omega);have f5:=s7 5 (by omega);have f6:=s7 6 (by omega);have g0:=p2 0 (by omega);have g1:=p2 1 (by omega);obtain⟨v0,v1⟩:=HV3.out;have HB3:=Zab hB;clear hB s7 p2;rw[show mixI 3 (nbI t o s b v m) b 0=nbI t o s b v m 0 from rfl] at q0;rw[show mixI 3 (nbI t o s b v m) b 1=nbI t o s b v m 1 from rfl] at q1;rw[show mixI 3 (nbI t o s b v m) b 2=nbI t o s b v m 2 from rfl] at q2;rw[show mixB 3 (noB t o s b v m c) o 0=noB t o s b v m c 0 from rfl] at q3;rw[show mixB 3 (noB t o s b v m c) o 1=noB t o s b v m c 1 from rfl] at q4;rw[show mixB 3 (noB t o s b v m c) o 2=noB t o s b v m c 2 from rfl] at q5;rw[show zI 0=0 from rfl] at s0;rw[show zI 1=0 from rfl] at s1;rw[show zI 2=0 from rfl] at s2;rw[show zB 0=false from rfl] at s3;rw[show zB 1=false from rfl] at s4;rw[show zB 2=false from rfl] at s5;have EV:=Zab (show(v=votI t o s l)∧n=Zcb t o 3 from⟨HVE.out,by rw[hn3,hn]⟩);obtain⟨y0,y1,y2,x0,x1,x2,EY⟩:∃y0 y1 y2 x0 x1 x2,Hid (nbI t o s b v m 0=y0∧nbI t o s b v m 1=y1∧nbI t o s b v m 2=y2∧noB t o s b v m c 0=x0∧noB t o s b v m c 1=x1∧noB t o s b v m c 2=x2):=⟨_,_,_,_,_,_,rfl,rfl,rfl,rfl,rfl,rfl⟩;rw[EY.out.1] at q0;rw[EY.out.2.1] at q1;rw[EY.out.2.2.1] at q2;rw[EY.out.2.2.2.1] at q3;rw[EY.out.2.2.2.2.1] at q4;rw[EY.out.2.2.2.2.2] at q5;have lt:=LT.out
        have n1:¬(w.heap.size+1+1+1=V):=by omega
        have n2:¬(V=w.heap.size+1+1+1):=by omega
        have n3:¬(w.heap.size+1+1+1+1=V):=by omega
        have n4:¬(V=w.heap.size+1+1+1+1):=by omega
        clear lt
        go_region
        all_goals
         go_wp2;have an:=Zab (ansW_at HS3.out.2.2.2.1.1 HS3.out.2.2.2.2.1.1 (by omega) y0 y1 y2 x0 x1 x2 v v n);have bl:=Zab (ansW_below HS3.out.2.2.2.2.2 (B:=w.heap.size+1+1+1) (C:=w.heap.size+1+1+1+1) (by omega) (by omega) y0 y1 y2 x0 x1 x2 v v n);rw[hn3] at an bl
         change bodyPost _ _ _ Exit.ret _ (ansW w7 (w.heap.size+1+1+1) (w.heap.size+1+1+1+1) y0 y1 y2 x0 x1 x2 v v _).drew
         generalize (ansW w7 (w.heap.size+1+1+1) (w.heap.size+1+1+1+1) y0 y1 y2 x0 x1 x2 v v _)=w9 at *;obtain⟨⟨c0,c1,c2,c3,c4,c5,c6⟩,d0,d1⟩:=an.out;exact bodyPost_ret (v:=.tuple #[.agg #[Vi y0,Vi y1,Vi y2,.bool x0,.bool x1,.bool x2,Vi v],.agg #[Vi v,Vi n]]) (by rw[hn3];simp[results,results92,go_sem,c0,c1,c2,c3,c4,c5,c6,d0,d1]) rfl ⟨by rw[←EV.out.1,←EV.out.2,EY.out.1,EY.out.2.1,EY.out.2.2.1,EY.out.2.2.2.1,EY.out.2.2.2.2.1,EY.out.2.2.2.2.2],bl.out.drew⟩
theorem Zaz{w w':World}{B:Nat}{e:TypeId}{size:Nat}{v:Value}{n:Nat}{xs:List Value}(h:w.ownsRow B e size v n xs)(hb:Below w.heap.size w w'):w'.ownsRow B e size v n xs:=by
 refine⟨h.1,?_⟩
 rcases h.2 with h|⟨g,cap,cur,h1,h2,h3,h4⟩
 · exact .inl h
 · refine .inr ⟨g,cap,cur,h1,h2,?_,h4⟩;rw[hb.block g ?_]
   · exact h3
   · rcases Nat.lt_or_ge g w.heap.size with h|h
     · exact h
     · rw[Array.getElem?_eq_none h] at h3;cases h3
def NewV(K:Nat)(w:World)(V:Nat):Prop:=w.cell? (Ad V 0)=some (Vi 0)∧w.cell? (Ad V 1)=some (Vi 0)∧w.frozen? (Ad V 0)=false∧w.frozen? (Ad V 1)=false∧K<V
theorem NewV.lt{K:Nat}{w:World}{V:Nat}(h:NewV K w V):K<V:=h.2.2.2.2
theorem newV{K:Nat}{X w':World}(hK:K<X.heap.size)(hb:Below (X.alloc (.cells #[Vi 0,Vi 0] 187)).heap.size (X.alloc (.cells #[Vi 0,Vi 0] 187)) w'):NewV K w' X.heap.size:=by
 have hl:X.heap.size<(X.alloc (.cells #[Vi 0,Vi 0] 187)).heap.size:=by simp[go_sem]
 exact⟨cell_later hb (by simp[go_sem]),cell_later hb (by simp[go_sem]),(hb.frozen (p:=⟨X.heap.size,0,none⟩) hl).trans (by simp[go_sem]),(hb.frozen (p:=⟨X.heap.size,1,none⟩) hl).trans (by simp[go_sem]),hK⟩
theorem newVd{K:Nat}{X w':World}(hK:K<X.heap.size)(hb:Below (X.alloc (.cells #[Vi 0,Vi 0] 187)).drew.heap.size (X.alloc (.cells #[Vi 0,Vi 0] 187)).drew w'):NewV K w' X.heap.size:=newV hK ((Below.refl _ _).drew.trans hb)
theorem laterV{K:Nat}{w w':World}{V:Nat}(hb:Below w.heap.size w w')(h:NewV K w V):NewV K w' V:=by
 have hl:=World.block_lt_of_cell? w ⟨V,0,none⟩ h.1;exact⟨cell_later hb h.1,cell_later hb h.2.1,(hb.frozen (p:=⟨V,0,none⟩) hl).trans h.2.2.1,(hb.frozen (p:=⟨V,1,none⟩) hl).trans h.2.2.2.1,h.2.2.2.2⟩
theorem sampE_of{b:Nat→Int}{l m c:Int}{t:Nat→Bool}{s:Nat→Int}(h:Zcz b l m c t s=0):Zgq t s 3=true:=by
 unfold Zcz at h
 split at h
 · split at h
   · split at h
     · assumption
     · omega
   · omega
 · omega
theorem lastE_of{b:Nat→Int}{l m c:Int}{t:Nat→Bool}{s:Nat→Int}(h:Zcz b l m c t s=0):-1000000≤l∧l≤1000000:=by
 unfold Zcz at h
 split at h
 · split at h
   · rename_i h2
     unfold Zcf at h2
     split at h2
     · rename_i h3;exact Zdl (by simp only[Bool.and_eq_true] at h3;exact h3.2)
     · omega
   · omega
 · omega
theorem bankE_of{b:Nat→Int}{l m c:Int}{t:Nat→Bool}{s:Nat→Int}(h:Zcz b l m c t s=0):∀k,k<3→0≤b k∧b k≤10:=by
 unfold Zcz at h
 split at h
 · split at h
   · rename_i h2
     unfold Zcf at h2
     split at h2
     · rename_i h3;exact okU_true (by simp only[Bool.and_eq_true] at h3;exact h3.1)
     · omega
   · omega
 · omega
theorem ruleE_of{b:Nat→Int}{l m c:Int}{t:Nat→Bool}{s:Nat→Int}(h:Zcz b l m c t s=0):(0≤m∧m≤1000000)∧1≤c∧c≤10:=by
 unfold Zcz at h
 split at h
 · rename_i h2
   unfold Zdh at h2
   split at h2
   · rename_i h3;exact ruleB_true h3
   · omega
 · omega
theorem keepH{w u u':World}{b:Nat→Int}{o:Nat→Bool}{l m c:Int}{t:Nat→Bool}{s:Nat→Int}(hb:Below u.heap.size u u')
 (h:(u.cell? (Ad w.heap.size 0)=some (Vi (b 0))∧u.cell? (Ad w.heap.size 1)=some (Vi (b 1))∧u.cell? (Ad w.heap.size 2)=some (Vi (b 2))∧u.cell? (Ad w.heap.size 3)=some (.bool (o 0))∧u.cell? (Ad w.heap.size 4)=some (.bool (o 1))∧u.cell? (Ad w.heap.size 5)=some (.bool (o 2))∧u.cell? (Ad w.heap.size 6)=some (Vi l))∧(u.cell? (Ad (w.heap.size+1+1) 0)=some (.bool (t 0))∧u.cell? (Ad (w.heap.size+1+1) 1)=some (Vi (s 0))∧u.cell? (Ad (w.heap.size+1+1) 2)=some (.bool (t 1))∧u.cell? (Ad (w.heap.size+1+1) 3)=some (Vi (s 1))∧u.cell? (Ad (w.heap.size+1+1) 4)=some (.bool (t 2))∧u.cell? (Ad (w.heap.size+1+1) 5)=some (Vi (s 2)))∧StAt w u b o l m c t s):
 (u'.cell? (Ad w.heap.size 0)=some (Vi (b 0))∧u'.cell? (Ad w.heap.size 1)=some (Vi (b 1))∧u'.cell? (Ad w.heap.size 2)=some (Vi (b 2))∧u'.cell? (Ad w.heap.size 3)=some (.bool (o 0))∧u'.cell? (Ad w.heap.size 4)=some (.bool (o 1))∧u'.cell? (Ad w.heap.size 5)=some (.bool (o 2))∧u'.cell? (Ad w.heap.size 6)=some (Vi l))∧(u'.cell? (Ad (w.heap.size+1+1) 0)=some (.bool (t 0))∧u'.cell? (Ad (w.heap.size+1+1) 1)=some (Vi (s 0))∧u'.cell? (Ad (w.heap.size+1+1) 2)=some (.bool (t 1))∧u'.cell? (Ad (w.heap.size+1+1) 3)=some (Vi (s 1))∧u'.cell? (Ad (w.heap.size+1+1) 4)=some (.bool (t 2))∧u'.cell? (Ad (w.heap.size+1+1) 5)=some (Vi (s 2)))∧StAt w u' b o l m c t s:=
 ⟨BankAt.later h.1 hb,SampAt.later h.2.1 hb,h.2.2.later hb⟩
theorem keepSet{w u:World}{V:Nat}{p q:Value}{b:Nat→Int}{o:Nat→Bool}{l m c:Int}{t:Nat→Bool}{s:Nat→Int}(hV:w.heap.size+1+1+1+1<V)
 (h:(u.cell? (Ad w.heap.size 0)=some (Vi (b 0))∧u.cell? (Ad w.heap.size 1)=some (Vi (b 1))∧u.cell? (Ad w.heap.size 2)=some (Vi (b 2))∧u.cell? (Ad w.heap.size 3)=some (.bool (o 0))∧u.cell? (Ad w.heap.size 4)=some (.bool (o 1))∧u.cell? (Ad w.heap.size 5)=some (.bool (o 2))∧u.cell? (Ad w.heap.size 6)=some (Vi l))∧(u.cell? (Ad (w.heap.size+1+1) 0)=some (.bool (t 0))∧u.cell? (Ad (w.heap.size+1+1) 1)=some (Vi (s 0))∧u.cell? (Ad (w.heap.size+1+1) 2)=some (.bool (t 1))∧u.cell? (Ad (w.heap.size+1+1) 3)=some (Vi (s 1))∧u.cell? (Ad (w.heap.size+1+1) 4)=some (.bool (t 2))∧u.cell? (Ad (w.heap.size+1+1) 5)=some (Vi (s 2)))∧StAt w u b o l m c t s):
 (((u.setCell (Ad V 0) p).setCell (Ad V 1) q).cell? (Ad w.heap.size 0)=some (Vi (b 0))∧((u.setCell (Ad V 0) p).setCell (Ad V 1) q).cell? (Ad w.heap.size 1)=some (Vi (b 1))∧((u.setCell (Ad V 0) p).setCell (Ad V 1) q).cell? (Ad w.heap.size 2)=some (Vi (b 2))∧((u.setCell (Ad V 0) p).setCell (Ad V 1) q).cell? (Ad w.heap.size 3)=some (.bool (o 0))∧((u.setCell (Ad V 0) p).setCell (Ad V 1) q).cell? (Ad w.heap.size 4)=some (.bool (o 1))∧((u.setCell (Ad V 0) p).setCell (Ad V 1) q).cell? (Ad w.heap.size 5)=some (.bool (o 2))∧((u.setCell (Ad V 0) p).setCell (Ad V 1) q).cell? (Ad w.heap.size 6)=some (Vi l))∧(((u.setCell (Ad V 0) p).setCell (Ad V 1) q).cell? (Ad (w.heap.size+1+1) 0)=some (.bool (t 0))∧((u.setCell (Ad V 0) p).setCell (Ad V 1) q).cell? (Ad (w.heap.size+1+1) 1)=some (Vi (s 0))∧((u.setCell (Ad V 0) p).setCell (Ad V 1) q).cell? (Ad (w.heap.size+1+1) 2)=some (.bool (t 1))∧((u.setCell (Ad V 0) p).setCell (Ad V 1) q).cell? (Ad (w.heap.size+1+1) 3)=some (Vi (s 1))∧((u.setCell (Ad V 0) p).setCell (Ad V 1) q).cell? (Ad (w.heap.size+1+1) 4)=some (.bool (t 2))∧((u.setCell (Ad V 0) p).setCell (Ad V 1) q).cell? (Ad (w.heap.size+1+1) 5)=some (Vi (s 2)))∧StAt w ((u.setCell (Ad V 0) p).setCell (Ad V 1) q) b o l m c t s:=
 ⟨BankAt.set (BankAt.set h.1 (by omega)) (by omega),SampAt.set (SampAt.set h.2.1 (by omega)) (by omega),(h.2.2.setElse hV _).setElse hV _⟩
theorem keepK{w u u':World}{V Y:Nat}{m c v z:Int}{y:Bool}(hb:Below u.heap.size u u')(h:(u.cell? (Ad (w.heap.size+1) 0)=some (Vi m)∧u.cell? (Ad (w.heap.size+1) 1)=some (Vi c))∧u.cell? (Ad V 0)=some (Vi v)∧u.cell? (Ad Y 0)=some (.bool y)∧u.cell? (Ad Y 1)=some (Vi z)):(u'.cell? (Ad (w.heap.size+1) 0)=some (Vi m)∧u'.cell? (Ad (w.heap.size+1) 1)=some (Vi c))∧u'.cell? (Ad V 0)=some (Vi v)∧u'.cell? (Ad Y 0)=some (.bool y)∧u'.cell? (Ad Y 1)=some (Vi z):=
 ⟨⟨cell_later hb h.1.1,cell_later hb h.1.2⟩,cell_later hb h.2.1,cell_later hb h.2.2.1,cell_later hb h.2.2.2⟩
theorem keepKs{w u:World}{V Y j:Nat}{m c v z:Int}{y:Bool}{x:Value}(hV:w.heap.size≠V)(hY:w.heap.size≠Y)(h:(u.cell? (Ad (w.heap.size+1) 0)=some (Vi m)∧u.cell? (Ad (w.heap.size+1) 1)=some (Vi c))∧u.cell? (Ad V 0)=some (Vi v)∧u.cell? (Ad Y 0)=some (.bool y)∧u.cell? (Ad Y 1)=some (Vi z)):((u.setCell (Ad w.heap.size j) x).cell? (Ad (w.heap.size+1) 0)=some (Vi m)∧(u.setCell (Ad w.heap.size j) x).cell? (Ad (w.heap.size+1) 1)=some (Vi c))∧(u.setCell (Ad w.heap.size j) x).cell? (Ad V 0)=some (Vi v)∧(u.setCell (Ad w.heap.size j) x).cell? (Ad Y 0)=some (.bool y)∧(u.setCell (Ad w.heap.size j) x).cell? (Ad Y 1)=some (Vi z):=
 ⟨⟨Zad h.1.1 (Zau (by omega)),Zad h.1.2 (Zau (by omega))⟩,Zad h.2.1 (Zau hV),Zad h.2.2.1 (Zau hY),Zad h.2.2.2 (Zau hY)⟩
theorem step_ok(b:Nat→Int)(o:Nat→Bool)(l m c:Int)(t:Nat→Bool)(s:Nat→Int)(he:Zcz b l m c t s=0)(w:World):
 Calls prog 157 #[.agg #[Vi (b 0),Vi (b 1),Vi (b 2),.bool (o 0),.bool (o 1),.bool (o 2),Vi l],.agg #[Vi m,Vi c],.agg #[.bool (t 0),Vi (s 0),.bool (t 1),Vi (s 1),.bool (t 2),Vi (s 2)]] w
  fun e w'=>e=.returned (.tuple #[.agg #[Vi (nbI t o s b (votI t o s l) m 0),Vi (nbI t o s b (votI t o s l) m 1),Vi (nbI t o s b (votI t o s l) m 2),.bool (noB t o s b (votI t o s l) m c 0),.bool (noB t o s b (votI t o s l) m c 1),.bool (noB t o s b (votI t o s l) m c 2),Vi (votI t o s l)],.agg #[Vi (votI t o s l),Vi (Zcb t o 3)],.nilIface])∧Below w.heap.size w w':=by
 have HX:=Zab (st_new w b o l m c t s);have hck:=checkStep_any b o l m c t s;rw[he,Zar] at hck
 go_enter func157,ntmps157
 go_upto_region 4 with(go_at_call 210;refine Sb (hck _) fun w1 hb1=>?_;have HX:=Zab (HX.out.later hb1);clear hb1);have st0:=HX.out;have S0:(w1.cell? (Ad w.heap.size 0)=some (Vi (b 0))∧w1.cell? (Ad w.heap.size 1)=some (Vi (b 1))∧w1.cell? (Ad w.heap.size 2)=some (Vi (b 2))∧w1.cell? (Ad w.heap.size 3)=some (.bool (o 0))∧w1.cell? (Ad w.heap.size 4)=some (.bool (o 1))∧w1.cell? (Ad w.heap.size 5)=some (.bool (o 2))∧w1.cell? (Ad w.heap.size 6)=some (Vi l))∧(w1.cell? (Ad (w.heap.size+1+1) 0)=some (.bool (t 0))∧w1.cell? (Ad (w.heap.size+1+1) 1)=some (Vi (s 0))∧w1.cell? (Ad (w.heap.size+1+1) 2)=some (.bool (t 1))∧w1.cell? (Ad (w.heap.size+1+1) 3)=some (Vi (s 1))∧w1.cell? (Ad (w.heap.size+1+1) 4)=some (.bool (t 2))∧w1.cell? (Ad (w.heap.size+1+1) 5)=some (Vi (s 2)))∧StAt w w1 b o l m c t s:=⟨st0.1.1,st0.2.2.1,st0⟩;have LT0:=Zab st0.lt;clear st0 HX;have fit:=fit_of (o:=o) (sampE_of he);have hcn:=counting_any b o l t s;have hse:=settle_any (risL (cntL t o s 3)) l
 have hlen:(risL (cntL t o s 3)).length≤3:=by rw[risL_len];exact cntL_len t o s 3
 have hbd:=cntL_bd fit;have EV:=Zab (set_vot l fit)
 have EN:Hid (((risL (cntL t o s 3)).length:Int)=Zcb t o 3):=by rw[risL_len];exact many_len t o s 3
 have Z:=Zab S0
 go_cut [10] (fun p w'=>∃V,p=.pointer (some (Ad V 0))∧StAt w w' b o l m c t s∧RuleAt w' V (votI t o s l) (Zcb t o 3)∧w.heap.size+1+1+1+1<V)
 case first=>
  generalize risL (cntL t o s 3)=zs at*
  go_region_held3 (fun u=>(u.cell? (Ad w.heap.size 0)=some (Vi (b 0))∧u.cell? (Ad w.heap.size 1)=some (Vi (b 1))∧u.cell? (Ad w.heap.size 2)=some (Vi (b 2))∧u.cell? (Ad w.heap.size 3)=some (.bool (o 0))∧u.cell? (Ad w.heap.size 4)=some (.bool (o 1))∧u.cell? (Ad w.heap.size 5)=some (.bool (o 2))∧u.cell? (Ad w.heap.size 6)=some (Vi l))∧(u.cell? (Ad (w.heap.size+1+1) 0)=some (.bool (t 0))∧u.cell? (Ad (w.heap.size+1+1) 1)=some (Vi (s 0))∧u.cell? (Ad (w.heap.size+1+1) 2)=some (.bool (t 1))∧u.cell? (Ad (w.heap.size+1+1) 3)=some (Vi (s 1))∧u.cell? (Ad (w.heap.size+1+1) 4)=some (.bool (t 2))∧u.cell? (Ad (w.heap.size+1+1) 5)=some (Vi (s 2)))∧StAt w u b o l m c t s)
   (first
    |(with_reducible assumption)
    |(with_reducible refine keepH (Zaa _ _) ?_;with_reducible assumption)
    |(with_reducible apply keepH;with_reducible assumption;with_reducible assumption)
    |(with_reducible refine keepH (Zaa _ _) KS.out)
    |(with_reducible refine keepSet (NewV.lt NV.out) KS.out)
    |(refine keepH ?_ Z.out;exact(Zaa _ _).drew)
    |(refine keepH ?_ Z.out;exact(Below.refl _ _).drew))
   (first
    |(go_at_call 212;refine(hcn _).mono ?_;rintro e w' ⟨⟨v,rfl,hown⟩,hb⟩;have LTW:=Zab (show w.heap.size+1+1+1+1<w'.heap.size from Nat.lt_of_lt_of_le LT0.out (Nat.le_trans (by simp[go_sem]) hb.size));have KS:=Zab (keepH hb (by with_reducible assumption));(first|(have NV:=Zab (newV (K:=w.heap.size+1+1+1+1) (by first|exact LTW.out|exact LT0.out) hb);obtain⟨r0,r1,f0,f1,_⟩:=NV.out)|(have NV:=Zab (newVd (K:=w.heap.size+1+1+1+1) (by first|exact LTW.out|exact LT0.out) hb);obtain⟨r0,r1,f0,f1,_⟩:=NV.out)|(have NV:=Zab (laterV hb NV.out);obtain⟨r0,r1,f0,f1,_⟩:=NV.out)|skip))
    |(go_at_call 211;refine Sb (hse _ _ _ hlen hbd (by first|(with_reducible assumption)|exact Zaz (by with_reducible assumption) (Zaa _ _))) fun w' hb=>?_;have KS:=Zab (keepH hb (by with_reducible assumption));(first|(have NV:=Zab (newV (K:=w.heap.size+1+1+1+1) (by first|exact LTW.out|exact LT0.out) hb);obtain⟨r0,r1,f0,f1,_⟩:=NV.out)|(have NV:=Zab (newVd (K:=w.heap.size+1+1+1+1) (by first|exact LTW.out|exact LT0.out) hb);obtain⟨r0,r1,f0,f1,_⟩:=NV.out)|(have NV:=Zab (laterV hb NV.out);obtain⟨r0,r1,f0,f1,_⟩:=NV.out)|skip)))
  all_goals
   rename_i hH
   go_wp2_with fail
   go_meet
   (case rel=>
    first
     |exact⟨_,rfl,hH.2.2,by rw[←EV.out,←EN.out];exact⟨by simp[go_sem],by simp[go_sem]⟩,KS.out.2.2.lt⟩
     |exact⟨_,rfl,hH.2.2,by rw[←EV.out,←EN.out];exact RuleAt.setBoth ⟨r0,r1⟩ _ _,NewV.lt NV.out⟩)
 case rest=>
  obtain⟨V,rfl,hst,hvt,hV⟩:=hcut;rename World=>wb;have vb:=votI_bd (l:=l) fit (lastE_of he).1 (lastE_of he).2;have mb:=ruleE_of he;have HBD:=Zab (bankE_of he);obtain⟨v,HVE⟩:∃v,Hid (votI t o s l=v):=⟨_,rfl⟩;obtain⟨n,HNE⟩:∃n,Hid (Zcb t o 3=n):=⟨_,rfl⟩;rw[HVE.out] at hvt vb;rw[HNE.out] at hvt;have ST:=Zab hst;have RV:=Zab hvt;obtain⟨p0,p1,p2,p3,p4,p5⟩:=hst.2.2.1;clear hst hvt hcn hse hlen hbd EV EN Z S0 LT0 fit he hck;have LT:=Zab hV;go_wp2
  go_loopw [29] (fun i wr=>∃k:Nat,k≤3∧i=Vi k∧StAt w wr (mixI k (nbI t o s b v m) b) (mixB k (noB t o s b v m c) o) l m c t s∧RuleAt wr V v n) (fun i _=>3-(intOf i).toNat)
  case atStart=>exact⟨0,by omega,rfl,by rw[mixI_zero,mixB_zero];exact ST.out,RV.out⟩
  case round=>
   clear ST RV p0 p1 p2 p3 p4 p5;obtain⟨k,hk,rfl,hst,hvt⟩:=hrel
   by_cases hlt:k<3
   · have hix:=idxS t s k hlt;have c3:∀ob,(wr.alloc ob).cell? (Ad w.heap.size (3+k))=some (.bool (o k)):=fun ob=>cell_later (Zaa wr ob) (by have:=hst.1.1.out k hlt;rwa[mixB_at] at this)
     have i0:(0:Int)≤(k:Int):=by omega
     have i1:(k:Int)<3:=by omega
     have bd:=HBD.out k hlt;have HN:=Zab (show nbI t o s b v m k=(if o k then b k else badI (b k) (fineB (t k) (s k) v m))∧noB t o s b v m c k=(if o k then true else outB (b k) (fineB (t k) (s k) v m) c) from⟨rfl,rfl⟩);have STK:=Zab hst;have RK:=Zab hvt
     cases h2:o k
     · rw[h2] at c3;rw[h2] at HN;have STU:=Zab (hst.later (Zaa wr (.cells #[.bool (t k),Vi (s k)] 131)));have RU:=Zab (hvt.later (Zaa wr (.cells #[.bool (t k),Vi (s k)] 131)));have YU:=Zab (show(wr.alloc (.cells #[.bool (t k),Vi (s k)] 131)).cell? (Ad wr.heap.size 0)=some (.bool (t k))∧(wr.alloc (.cells #[.bool (t k),Vi (s k)] 131)).cell? (Ad wr.heap.size 1)=some (Vi (s k)) from⟨by simp[go_sem],by simp[go_sem]⟩);have LY:=Zab hst.lt;clear hst hvt STK RK
       go_upto_region 9 with fail;generalize (wr.alloc (.cells #[.bool (t k),Vi (s k)] 131))=u0 at *;generalize wr.heap.size=Y at *;clear c3;have c4:=STU.out.1.1.bad k hlt;rw[mixI_at] at c4;have c3:=STU.out.1.1.out k hlt;have z1:=STU.out.1.2.1 k (by omega);have z2:=STU.out.1.2.1 (3+k) (by omega);have hfn:=isFine_any (t k) (s k) v m (by omega) (by omega) mb.1.1 mb.1.2;have hjd:=judge_any (b k) c (fineB (t k) (s k) v m) bd.1 bd.2;have S0:(u0.cell? (Ad (w.heap.size+1) 0)=some (Vi m)∧u0.cell? (Ad (w.heap.size+1) 1)=some (Vi c))∧u0.cell? (Ad V 0)=some (Vi v)∧u0.cell? (Ad Y 0)=some (.bool (t k))∧u0.cell? (Ad Y 1)=some (Vi (s k)):=⟨STU.out.2.1,RU.out.1,YU.out.1,YU.out.2⟩;have Z:=Zab S0
       have nV:w.heap.size≠V:=by have:=LT.out;omega
       have nY:w.heap.size≠Y:=by have:=LY.out;omega
       have NVY:=Zab (And.intro nV nY);obtain⟨f,HF⟩:∃f,Hid (fineB (t k) (s k) v m=f):=⟨_,rfl⟩;rw[HF.out] at hfn hjd HN;obtain⟨pb,HPB⟩:∃pb,Hid (badI (b k) f=pb):=⟨_,rfl⟩;obtain⟨po,HPO⟩:∃po,Hid (outB (b k) f c=po):=⟨_,rfl⟩;rw[HPB.out,HPO.out] at hjd HN;clear nV nY YU LY;refine wp_region_held_drew (S:=fun u=>(u.cell? (Ad (w.heap.size+1) 0)=some (Vi m)∧u.cell? (Ad (w.heap.size+1) 1)=some (Vi c))∧u.cell? (Ad V 0)=some (Vi v)∧u.cell? (Ad Y 0)=some (.bool (t k))∧u.cell? (Ad Y 1)=some (Vi (s k))) (by kernel_rfl) (keepK (Below.refl _ _).drew Z.out) (fun hHeld=>?_);clear S0;refine Tp 0 (by assumption) ?_;(try simp only[Act.put]);refine Tp 1 (by assumption) ?_;(try simp only[Act.put]);refine Tp 2 (by assumption) ?_;(try simp only[Act.put]);refine Tp 3 (by assumption) ?_;(try simp only[Act.put]);refine Tp 4 (by assumption) ?_;(try simp only[Act.put]);refine Tp 6 (by assumption) ?_;(try simp only[Act.put]);refine Tp 7 (by assumption) ?_;(try simp only[Act.put]);refine Tp 8 (by assumption) ?_;(try simp only[Act.put]);refine Tp 9 (by assumption) ?_;(try simp only[Act.put]);refine Tp 10 (by assumption) ?_;(try simp only[Act.put]);refine Tp 12 (by assumption) ?_;(try simp only[Act.put]);refine Tp 13 (by assumption) ?_;(try simp only[Act.put]);refine Tp 18 (by assumption) ?_;(try simp only[Act.put]);refine Tp 21 (by assumption) ?_;(try simp only[Act.put]);refine Rb 5 11 (fun K hK=>?_) (fun K hK=>?_)
       · go_simp;refine hK.out _ _ (keepK (Below.refl _ _).drew Z.out) (fun hHeld=>?_);clear hK K;(try simp only[Act.put]);refine Ra 11 (fun K hK=>?_);go_simp;refine Sb (hfn _) fun w' hb=>?_;have hb0:=Zab (show Below u0.heap.size u0 w' by first|exact hb|exact(Below.refl _ _).drew.trans hb);have KS:=Zab (keepK hb0.out Z.out);have c4:=cell_later hb0.out c4;have c3:=cell_later hb0.out c3;have z1:=(STU.out.1.2.later hb0.out).1 k (by omega);have z2:=(STU.out.1.2.later hb0.out).1 (3+k) (by omega);go_wp2_with fail;refine hK.out _ _ KS.out (fun hHeld=>?_);clear hK K;(try simp only[Act.put]);refine Ra 14 (fun K hK=>?_);go_simp;refine(hjd _).mono ?_;rintro e w'' ⟨rfl,hq⟩;have hq:=hq.symm;subst hq;go_wp2_with fail;refine hK.out _ _ KS.out (fun hHeld=>?_);clear hK K;(try simp only[Act.put]);refine Tp 15 (by assumption) ?_;(try simp only[Act.put]);refine Tp 16 (by assumption) ?_;(try simp only[Act.put]);refine Tp 17 (by assumption) ?_;(try simp only[Act.put]);refine Tp 19 (by assumption) ?_;(try simp only[Act.put]);refine Ra 20 (fun K hK=>?_);go_simp;refine hK.out _ _ (keepKs NVY.out.1 NVY.out.2 KS.out) (fun hHeld=>?_);clear hK K;(try simp only[Act.put]);refine Tp 22 (by assumption) ?_;(try simp only[Act.put]);refine Ra 23 (fun K hK=>?_);go_simp;refine hK.out _ _ (keepKs NVY.out.1 NVY.out.2 (keepKs NVY.out.1 NVY.out.2 KS.out)) (fun hHeld=>?_);clear hK K;(try simp only[Act.put]);refine wpAnyH_done (by kernel_rfl) ?_ _;go_wp2;go_roundw
         case rel=>
          refine⟨k+1,by omega,by go_num,?_,?_⟩
          · rw[Zeh,Zei,show nbI t o s b v m k=pb from HN.out.1,show noB t o s b v m c k=po from HN.out.2];exact((STU.out.later hb0.out).setBad k hlt _).setOut k hlt _
          · exact((RU.out.later hb0.out).set NVY.out.1).set NVY.out.1
         case measure=>simp[intOf];omega
       · go_simp;refine Sb (hfn _) fun w' hb=>?_;have hb0:=Zab (show Below u0.heap.size u0 w' by first|exact hb|exact(Below.refl _ _).drew.trans hb);have KS:=Zab (keepK hb0.out Z.out);have c4:=cell_later hb0.out c4;have c3:=cell_later hb0.out c3;have z1:=(STU.out.1.2.later hb0.out).1 k (by omega);have z2:=(STU.out.1.2.later hb0.out).1 (3+k) (by omega);go_wp2_with fail;refine hK.out _ _ KS.out (fun hHeld=>?_);clear hK K;(try simp only[Act.put]);refine Ra 5 (fun K hK=>?_);go_simp;refine hK.out _ _ KS.out (fun hHeld=>?_);clear hK K;(try simp only[Act.put]);refine Ra 14 (fun K hK=>?_);go_simp;refine(hjd _).mono ?_;rintro e w'' ⟨rfl,hq⟩;have hq:=hq.symm;subst hq;go_wp2_with fail;refine hK.out _ _ KS.out (fun hHeld=>?_);clear hK K;(try simp only[Act.put]);refine Tp 15 (by assumption) ?_;(try simp only[Act.put]);refine Tp 16 (by assumption) ?_;(try simp only[Act.put]);refine Tp 17 (by assumption) ?_;(try simp only[Act.put]);refine Tp 19 (by assumption) ?_;(try simp only[Act.put]);refine Ra 20 (fun K hK=>?_);go_simp;refine hK.out _ _ (keepKs NVY.out.1 NVY.out.2 KS.out) (fun hHeld=>?_);clear hK K;(try simp only[Act.put]);refine Tp 22 (by assumption) ?_;(try simp only[Act.put]);refine Ra 23 (fun K hK=>?_);go_simp;refine hK.out _ _ (keepKs NVY.out.1 NVY.out.2 (keepKs NVY.out.1 NVY.out.2 KS.out)) (fun hHeld=>?_);clear hK K;(try simp only[Act.put]);refine wpAnyH_done (by kernel_rfl) ?_ _;go_wp2;go_roundw
         case rel=>
          refine⟨k+1,by omega,by go_num,?_,?_⟩
          · rw[Zeh,Zei,show nbI t o s b v m k=pb from HN.out.1,show noB t o s b v m c k=po from HN.out.2];exact((STU.out.later hb0.out).setBad k hlt _).setOut k hlt _
          · exact((RU.out.later hb0.out).set NVY.out.1).set NVY.out.1
         case measure=>simp[intOf];omega
     · rw[h2] at c3;rw[h2] at HN;have hbad:Hid (nbI t o s b v m k=mixI k (nbI t o s b v m) b k):=HN.out.1.trans (by rw[mixI_at];rfl);have hout:Hid (noB t o s b v m c k=mixB k (noB t o s b v m c) o k):=HN.out.2.trans (by rw[mixB_at,h2];rfl);clear hst hvt;go_wp2;go_roundw
       case rel=>
        refine⟨k+1,by omega,by go_num,?_,RK.out.later (Zaa _ _)⟩;rw[Zeh,Zei,hbad.out,hout.out,updI_same,updB_same];exact STK.out.later (Zaa _ _)
       case measure=>simp[intOf];omega
   · have e:k=3:=by omega
     subst e;have HS3:=Zab (hst.setLast v);have q6:=hst.1.1.2.2.2.2.2.2;have z6:=hst.1.2.1 6 (by omega);have vt:=hvt.1
     have nV:w.heap.size≠V:=by have:=LT.out;omega
     have HV3:=Zab (hvt.set (q:=6) (v:=Vi v) nV);clear hst hvt nV
     go_upto_region 12 with fail;generalize hw7:(World.setCell _ _ (Vi v))=w7 at *;clear hw7 q6 z6 vt;obtain⟨⟨⟨q0,q1,q2,q3,q4,q5,q6⟩,_⟩,_,_,⟨⟨s0,s1,s2,s3,s4,s5,s6⟩,s7,_⟩,⟨⟨p0,p1⟩,p2,_⟩,hB⟩:=HS3.out;have f0:=s7 0 (by omega);have f1:=s7 1 (by omega);have f2:=s7 2 (by omega);have f3:=s7 3 (by omega);have f4:=s7 4 (by omega);have f5:=s7 5 (by omega);have f6:=s7 6 (by omega);have g0:=p2 0 (by omega);have g1:=p2 1 (by omega);obtain⟨v0,v1⟩:=HV3.out;clear hB s7 p2;rw[show mixI 3 (nbI t o s b v m) b 0=nbI t o s b v m 0 from rfl] at q0;rw[show mixI 3 (nbI t o s b v m) b 1=nbI t o s b v m 1 from rfl] at q1;rw[show mixI 3 (nbI t o s b v m) b 2=nbI t o s b v m 2 from rfl] at q2;rw[show mixB 3 (noB t o s b v m c) o 0=noB t o s b v m c 0 from rfl] at q3;rw[show mixB 3 (noB t o s b v m c) o 1=noB t o s b v m c 1 from rfl] at q4;rw[show mixB 3 (noB t o s b v m c) o 2=noB t o s b v m c 2 from rfl] at q5;rw[show zI 0=0 from rfl] at s0;rw[show zI 1=0 from rfl] at s1;rw[show zI 2=0 from rfl] at s2;rw[show zB 0=false from rfl] at s3;rw[show zB 1=false from rfl] at s4;rw[show zB 2=false from rfl] at s5;obtain⟨y0,y1,y2,x0,x1,x2,EY⟩:∃y0 y1 y2 x0 x1 x2,Hid (nbI t o s b v m 0=y0∧nbI t o s b v m 1=y1∧nbI t o s b v m 2=y2∧noB t o s b v m c 0=x0∧noB t o s b v m c 1=x1∧noB t o s b v m c 2=x2):=⟨_,_,_,_,_,_,rfl,rfl,rfl,rfl,rfl,rfl⟩;rw[EY.out.1] at q0;rw[EY.out.2.1] at q1;rw[EY.out.2.2.1] at q2;rw[EY.out.2.2.2.1] at q3;rw[EY.out.2.2.2.2.1] at q4;rw[EY.out.2.2.2.2.2] at q5;have lt:=LT.out
     have n1:¬(w.heap.size+1+1+1=V):=by omega
     have n2:¬(V=w.heap.size+1+1+1):=by omega
     have n3:¬(w.heap.size+1+1+1+1=V):=by omega
     have n4:¬(V=w.heap.size+1+1+1+1):=by omega
     clear lt
     go_region
     all_goals
      go_wp2;have an:=Zab (ansW_at HS3.out.2.2.2.1.1 HS3.out.2.2.2.2.1.1 (by omega) y0 y1 y2 x0 x1 x2 v v n);have bl:=Zab (ansW_below HS3.out.2.2.2.2.2 (B:=w.heap.size+1+1+1) (C:=w.heap.size+1+1+1+1) (by omega) (by omega) y0 y1 y2 x0 x1 x2 v v n)
      change bodyPost _ _ _ Exit.ret _ (ansW w7 (w.heap.size+1+1+1) (w.heap.size+1+1+1+1) y0 y1 y2 x0 x1 x2 v v n).drew
      generalize (ansW w7 (w.heap.size+1+1+1) (w.heap.size+1+1+1+1) y0 y1 y2 x0 x1 x2 v v n)=w9 at *;obtain⟨⟨c0,c1,c2,c3,c4,c5,c6⟩,d0,d1⟩:=an.out;exact bodyPost_ret (v:=.tuple #[.agg #[Vi y0,Vi y1,Vi y2,.bool x0,.bool x1,.bool x2,Vi v],.agg #[Vi v,Vi n],.nilIface]) (by simp[results,results157,go_sem,c0,c1,c2,c3,c4,c5,c6,d0,d1]) rfl ⟨by rw[HVE.out,HNE.out,EY.out.1,EY.out.2.1,EY.out.2.2.1,EY.out.2.2.2.1,EY.out.2.2.2.2.1,EY.out.2.2.2.2.2],bl.out.drew⟩
end Go.Proofs.YtnfdfiholcelaaaGreatDoor
