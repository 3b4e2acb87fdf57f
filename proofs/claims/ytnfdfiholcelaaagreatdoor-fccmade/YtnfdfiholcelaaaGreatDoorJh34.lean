import Derived.Deep.QuietTactic
import Derived.BigQuiet
import Derived.ChangeKeysEq
import Derived.Test.YtnfdfiholcelaaaGreatDoorJh00
import Derived.Test.YtnfdfiholcelaaaGreatDoorJh04
import Derived.Test.YtnfdfiholcelaaaGreatDoorJh06
import Derived.Test.YtnfdfiholcelaaaGreatDoorJh07
import Derived.Test.YtnfdfiholcelaaaGreatDoorJh11
import Derived.Test.YtnfdfiholcelaaaGreatDoorJh14
import Derived.Test.YtnfdfiholcelaaaGreatDoorJh17
import Derived.Test.YtnfdfiholcelaaaGreatDoorJh20
import Derived.Test.YtnfdfiholcelaaaGreatDoorJh21
import Derived.Test.YtnfdfiholcelaaaGreatDoorJh22
import Derived.Test.YtnfdfiholcelaaaGreatDoorJh23
import Derived.Test.YtnfdfiholcelaaaGreatDoorJh27
import Derived.Test.YtnfdfiholcelaaaGreatDoorJh31
import Derived.Test.YtnfdfiholcelaaaGreatDoorJh32
set_option maxRecDepth 100000
set_option maxHeartbeats 20000000
namespace Go.Proofs.YtnfdfiholcelaaaGreatDoor
open Go.RowKit Plain Tryz
theorem firstI_ne{x y z:Int}(h:x≠0):Zap [x,y,z]=x:=by simp only[Zap];rw[if_neg h]
theorem holdMay_any(L H U B M:Int)(a z:Option Addr)(ca cz:Nat)(al zl:List Int)(A D W k p v n q:Int)(hm:al.length≤9223372036854775807)(hn:zl.length≤9223372036854775807)(w:World)(ha:Lst w a al)(hz:Lst w z zl):
 Calls prog 43 #[.agg #[Vi L,Vi H,Vi U,Vi B,Vi M,.slice a al.length ca,.slice z zl.length cz],.agg #[Vi A,Vi D,Vi W],.agg #[Vi k,Vi p,Vi v,Vi n,Vi q]] w fun e w'=>e=.returned (Vi (hoE L H U B M al zl A D W k n q))∧Below w.heap.size w w':=by
 have hrm:=fun u (h1:Lst u a al) (h2:Lst u z zl)=>Zgw L H U B M a z ca cz al zl hm hn u h1 h2;have HX:=Zab (newHS L H U B M a z ca cz al zl A D W k p v n q w ha hz)
 dsimp only at HX
 clear ha hz
 by_cases h0:ruE L H U B M al zl=0
 · obtain⟨_,_,_,_,m0,m1⟩:=Zdb (Zda h0).1
   have HE:=Zab (show hoE L H U B M al zl A D W k n q=Zap [0,if betw A L H&&betw D (-M) M&&betw W 0 3 then 0 else 3,if betw k (-100) 100&&betw n 0 3&&betw q (-M) M then 0 else 1] by
    unfold hoE;rw[if_pos h0];unfold stB asB
    cases betw A L H&&betw D (-M) M&&betw W 0 3<;>cases betw k (-100) 100&&betw n 0 3&&betw q (-M) M<;>rfl)
   simp only[h0] at hrm;generalize hoE L H U B M al zl A D W k n q=E at *;clear h0;have f1:=Zaj A L H;have f2:=Zaj D (-M) M;have f3:=Zaj W 0 3;have f4:=Zaj k (-100) 100;have f5:=Zaj n 0 3;have f6:=Zaj q (-M) M;generalize betw A L H=x1 at *;generalize betw D (-M) M=x2 at *;generalize betw W 0 3=x3 at *;generalize betw k (-100) 100=y1 at *;generalize betw n 0 3=y2 at *;generalize betw q (-M) M=y3 at*
   rcases(show x1=false∨(x1=true∧x2=false)∨(x1=true∧x2=true∧x3=false)∨(x1=true∧x2=true∧x3=true) by cases x1<;>cases x2<;>cases x3<;>simp) with rfl|⟨rfl,rfl⟩|⟨rfl,rfl,rfl⟩|⟨rfl,rfl,rfl⟩
   all_goals
    go_enter func43,ntmps43
    go_upto_region 2 with(first
     |((first|go_at_call_of 38 (Vi A)|go_at_call_of 38 (Value.int .i64 A));refine Sm (f1 _) ?_)
     |((first|go_at_call_of 38 (Vi D)|go_at_call_of 38 (Value.int .i64 D));refine Sm (f2 _) ?_)
     |((first|go_at_call_of 38 (Vi W)|go_at_call_of 38 (Value.int .i64 W));refine Sm (f3 _) ?_))
    rcases(show y1=false∨(y1=true∧y2=false)∨(y1=true∧y2=true∧y3=false)∨(y1=true∧y2=true∧y3=true) by cases y1<;>cases y2<;>cases y3<;>simp) with rfl|⟨rfl,rfl⟩|⟨rfl,rfl,rfl⟩|⟨rfl,rfl,rfl⟩
    all_goals
     go_wp2_with (first
      |((first|go_at_call_of 38 (Vi k)|go_at_call_of 38 (Value.int .i64 k));refine Sm (f4 _) ?_)
      |((first|go_at_call_of 38 (Vi n)|go_at_call_of 38 (Value.int .i64 n));refine Sm (f5 _) ?_)
      |((first|go_at_call_of 38 (Vi q)|go_at_call_of 38 (Value.int .i64 q));refine Sm (f6 _) ?_)
      |(go_at_call 88;refine Sb (hrm _ HX.out.2.2.2.1 HX.out.2.2.2.2.1) fun w1 hb=>?_;have HX:=Zab (Zhx hb HX.out);clear hb)
      |(go_at_call_of 14 (Value.bool true);refine Sm (Zbo _ _) ?_)
      |(go_at_call_of 14 (Value.bool false);refine Sm (Zbv _ _) ?_)
      |(go_at_call 13;refine Sm (Zhn _ _ _ _ _) ?_))
     go_ret;exact⟨by rw[HE.out];rfl,(Zac HX.out.2.2.2.2.2 (Zaa _ _))⟩
 · have HE:=Zab (show ∀s t,hoE L H U B M al zl A D W k n q=Zap [ruE L H U B M al zl,s,t] from fun s t=>by
    rw[firstI_ne h0];unfold hoE;rw[if_neg h0])
   generalize hoE L H U B M al zl A D W k n q=E at *;generalize ruE L H U B M al zl=F at *;clear h0;have f1:=Zaj A L H;have f2:=Zaj D (wrap64 (-M)) M;have f3:=Zaj W 0 3;have f4:=Zaj k (-100) 100;have f5:=Zaj n 0 3;have f6:=Zaj q (wrap64 (-M)) M;generalize betw A L H=x1 at *;generalize betw D (wrap64 (-M)) M=x2 at *;generalize betw W 0 3=x3 at *;generalize betw k (-100) 100=y1 at *;generalize betw n 0 3=y2 at *;generalize betw q (wrap64 (-M)) M=y3 at*
   rcases(show x1=false∨(x1=true∧x2=false)∨(x1=true∧x2=true∧x3=false)∨(x1=true∧x2=true∧x3=true) by cases x1<;>cases x2<;>cases x3<;>simp) with rfl|⟨rfl,rfl⟩|⟨rfl,rfl,rfl⟩|⟨rfl,rfl,rfl⟩
   all_goals
    go_enter func43,ntmps43
    go_upto_region 2 with(first
     |((first|go_at_call_of 38 (Vi A)|go_at_call_of 38 (Value.int .i64 A));refine Sm (f1 _) ?_)
     |((first|go_at_call_of 38 (Vi D)|go_at_call_of 38 (Value.int .i64 D));refine Sm (f2 _) ?_)
     |((first|go_at_call_of 38 (Vi W)|go_at_call_of 38 (Value.int .i64 W));refine Sm (f3 _) ?_))
    rcases(show y1=false∨(y1=true∧y2=false)∨(y1=true∧y2=true∧y3=false)∨(y1=true∧y2=true∧y3=true) by cases y1<;>cases y2<;>cases y3<;>simp) with rfl|⟨rfl,rfl⟩|⟨rfl,rfl,rfl⟩|⟨rfl,rfl,rfl⟩
    all_goals
     go_wp2_with (first
      |((first|go_at_call_of 38 (Vi k)|go_at_call_of 38 (Value.int .i64 k));refine Sm (f4 _) ?_)
      |((first|go_at_call_of 38 (Vi n)|go_at_call_of 38 (Value.int .i64 n));refine Sm (f5 _) ?_)
      |((first|go_at_call_of 38 (Vi q)|go_at_call_of 38 (Value.int .i64 q));refine Sm (f6 _) ?_)
      |(go_at_call 88;refine Sb (hrm _ HX.out.2.2.2.1 HX.out.2.2.2.2.1) fun w1 hb=>?_;have HX:=Zab (Zhx hb HX.out);clear hb)
      |(go_at_call_of 14 (Value.bool true);refine Sm (Zbo _ _) ?_)
      |(go_at_call_of 14 (Value.bool false);refine Sm (Zbv _ _) ?_)
      |(go_at_call 13;refine Sm (Zhn _ _ _ _ _) ?_))
     go_ret;exact⟨by rw[HE.out _ _];rfl,(Zac HX.out.2.2.2.2.2 (Zaa _ _))⟩
def fU(S:FS):Nat→Bool
 |0=>betw S.n 0 3
 |k+1=>fU S k&&decide (Zcf (S.bk k).b (S.bk k).l=0)
def fX(C:CR)(S:FS)(sv:Nat→List Sv):Nat→Bool
 |0=>fU S 3
 |i+1=>fX C S sv i&&decide (((sv i).length:Int)=C.a i 4)&&decide (chE C i (S.hd i)=0)&&decide (seU C i (sv i) (sv i).length=0)
theorem stE_fX(C:CR)(S:FS)(sv:Nat→List Sv)(h:crE C=0):stE C S sv=if fX C S sv 2 then 0 else 3:=by
 unfold stE
 rw[if_pos h]
 have e:(fstN (eSt C S sv) 8=0)↔fX C S sv 2=true:=by
  constructor
  · intro h;have a:=Ziz h;have a0:clE S.n=0:=a 0 (by omega);have a1:Zcf (S.bk 0).b (S.bk 0).l=0:=a 1 (by omega);have a2:Zcf (S.bk 1).b (S.bk 1).l=0:=a 2 (by omega);have a3:Zcf (S.bk 2).b (S.bk 2).l=0:=a 3 (by omega);have a4:csE C 0 (sv 0)=0:=a 4 (by omega);have a5:chE C 0 (S.hd 0)=0:=a 5 (by omega);have a6:csE C 1 (sv 1)=0:=a 6 (by omega);have a7:chE C 1 (S.hd 1)=0:=a 7 (by omega)
    have cs:∀i,csE C i (sv i)=0→((sv i).length:Int)=C.a i 4∧seU C i (sv i) (sv i).length=0:=fun i h=>by
     unfold csE at h
     split at h
     · rename_i e;exact⟨e,h⟩
     · cases h
    have b0:=cs 0 a4;have b1:=cs 1 a6;simp only[fX,fU,clE_zero a0,a1,a2,a3,b0.1,b0.2,b1.1,b1.2,a5,a7,decide_true,Bool.and_self]
  · intro h;simp only[fX,fU,Bool.and_eq_true,decide_eq_true_eq] at h;obtain⟨⟨⟨⟨⟨⟨⟨⟨⟨h0,h1⟩,h2⟩,h3⟩,h4⟩,h5⟩,h6⟩,h7⟩,h8⟩,h9⟩:=h;refine Zel (fun j hj=>?_)
    rcases(show j=0∨j=1∨j=2∨j=3∨j=4∨j=5∨j=6∨j=7 by omega) with rfl|rfl|rfl|rfl|rfl|rfl|rfl|rfl
    · show clE S.n=0;unfold clE;rw[if_pos h0]
    · exact h1
    · exact h2
    · exact h3
    · show csE C 0 (sv 0)=0;unfold csE;rw[if_pos h4];exact h6
    · exact h5
    · show csE C 1 (sv 1)=0;unfold csE;rw[if_pos h7];exact h9
    · exact h8
 by_cases hf:fX C S sv 2=true
 · rw[if_pos (e.2 hf),if_pos hf]
 · rw[if_neg (fun h=>hf (e.1 h)),if_neg hf]
theorem Zfk(S:FS){k:Nat}(hk:k<3)(j:Nat)(hj:j<7):(stL S)[k*7+j]?=some ((bkL (S.bk k)).getD j undef):=by
 have h:=st_bank S hk
 have e:(((stL S).drop (k*7)).take 7)[j]?=(bkL (S.bk k))[j]?:=by rw[h]
 rw[List.getElem?_take,if_pos hj,List.getElem?_drop] at e;rw[e,List.getD_eq_getElem?_getD];have hl:j<(bkL (S.bk k)).length:=hj;rw[List.getElem?_eq_getElem hl];rfl
theorem craftMay_c(C:CR)(w:World)(hl:CrL w C):Calls prog 41 #[.agg (crL C).toArray] w fun e w'=>e=.returned (Vi (crE C))∧Below w.heap.size w w':=
 craftMay_any (C.a 0 0) (C.a 0 1) (C.a 0 2) (C.a 0 3) (C.a 0 4) (C.a 0 5) (C.a 0 6) (C.a 0 7) (C.a 0 8) (C.a 0 9) (C.a 0 10) (C.a 0 11) (C.a 0 14) (C.p 0) (C.q 0) (C.al 0) (C.zl 0) (C.cn 0) (C.cm 0) (C.a 1 0) (C.a 1 1) (C.a 1 2) (C.a 1 3) (C.a 1 4) (C.a 1 5) (C.a 1 6) (C.a 1 7) (C.a 1 8) (C.a 1 9) (C.a 1 10) (C.a 1 11) (C.a 1 14) (C.p 1) (C.q 1) (C.al 1) (C.zl 1) (C.cn 1) (C.cm 1) C.c0 C.c1 w (hl 0 (by omega)) (hl 1 (by omega))
theorem refStateMay_any(C:CR)(S:FS)(sv:Nat→List Sv)(w:World)(hl:CrL w C)(hv:SvL w S sv):
 Calls prog 12 #[.agg (crL C).toArray,.agg (stL S).toArray] w fun e w'=>e=.returned (Vi (stE C S sv))∧Below w.heap.size w w':=by
 have hck:=fun u (h:Below w.heap.size w u)=>craftMay_c C u (hl.later h);have HS:Hid (Blk 41 ((w.alloc (.cells (crL C).toArray 29)).alloc (.cells (stL S).toArray 41)) (w.heap.size+1) (stL S)):=Zab (by have:=Blk.new (w.alloc (.cells (crL C).toArray 29)) 41 (stL S);rw[World.size_alloc] at this;exact this);have HC:Hid (Blk 29 ((w.alloc (.cells (crL C).toArray 29)).alloc (.cells (stL S).toArray 41)) w.heap.size (crL C)):=Zab ((Blk.new w 29 (crL C)).later (Zaa _ (.cells (stL S).toArray 41)));have HB:=Zab (Zac (Zaa w (.cells (crL C).toArray 29)) (Zaa _ (.cells (stL S).toArray 41)));have HCr:=Zab HC.out.range
 by_cases h0:crE C=0
 · have HE:=Zab (stE_fX C S sv h0);rw[HE.out];simp only[h0] at hck;have HAC:=Zab (fun u (h:Below w.heap.size w u) i (hi:i<2)=>axC_of h0 (hl.later h) hi);have HV:=Zab hv;have hbt:=Zaj S.n 0 3;obtain⟨fz,HFZ⟩:∃fz,Hid (fX C S sv 2=fz):=⟨_,Zab rfl⟩;rw[HFZ.out];clear hl hv HE h0
   go_enter func12,ntmps12
   go_upto_region 4 with(first
    |(refine Lq 29 _ rfl ?_;refine wpList_load_mid rfl 29 (.tmp 2) rfl w.heap.size 0 rfl (crL C) _ HCr.out underlying29 rfl Zaw ?_)
    |(go_at_call 41;refine Sb (hck _ HB.out) fun w1 hb=>?_;have HB:=Zab (Zac HB.out hb);have HC:=Zab (HC.out.later hb);have HS:=Zab (HS.out.later hb);clear hb))
   generalize w.heap.size+1=QS at *;have hn:=(HS.out.cell (show(stL S)[29]?=some (Vi S.n) from rfl)).1
   go_upto_region 6 with(go_at_call 38;refine(hbt _).mono ?_;rintro e w' ⟨rfl,rfl⟩);clear hn hck HCr hbt
   go_loopw [6,7] (fun f ix wr=>∃k:Nat,k≤3∧ix=Vi k∧f=.bool (fU S k)∧Blk 41 wr QS (stL S)∧Blk 29 wr w.heap.size (crL C)∧Below w.heap.size w wr) (fun _ ix _=>3-(intOf ix).toNat)
   case atStart=>exact⟨0,by omega,rfl,rfl,HS.out,HC.out,HB.out⟩
   case round=>
    obtain⟨k,hk,rfl,rfl,hs,hc,hbw⟩:=hrel;clear HS HC HB
    by_cases hlt:k<3
    · have hbm:=bankMay_any (S.bk k).b (S.bk k).o (S.bk k).l;have HFN:Hid (fU S (k+1)=(fU S k&&decide (Zcf (S.bk k).b (S.bk k).l=0))):=Zab rfl;have c0:=(hs.cell (Zfk S hlt 0 (by omega))).1;have c1:=(hs.cell (Zfk S hlt 1 (by omega))).1;have c2:=(hs.cell (Zfk S hlt 2 (by omega))).1;have c3:=(hs.cell (Zfk S hlt 3 (by omega))).1;have c4:=(hs.cell (Zfk S hlt 4 (by omega))).1;have c5:=(hs.cell (Zfk S hlt 5 (by omega))).1;have c6:=(hs.cell (Zfk S hlt 6 (by omega))).1;
      have k0:(0:Int)≤(k:Int):=by omega
      have k1:(k:Int)<3:=by omega
      simp only[bkL,List.getD_cons_zero,List.getD_cons_succ,Nat.add_zero] at c0 c1 c2 c3 c4 c5 c6;have HS:=Zab hs;have HC:=Zab hc;have HB:=Zab hbw;generalize Zcf (S.bk k).b (S.bk k).l=be at *;generalize fU S k=fb at *;clear hs hc hbw
      cases fb
      · go_wp2_with fail;go_roundw
        case rel=>exact⟨k+1,by omega,by go_num,by rw[HFN.out];rfl,HS.out,HC.out,HB.out⟩
        case measure=>simp[intOf];omega
      · go_wp2_with (go_at_call 42;refine Sb (hbm _) fun w2 hb=>?_;have HS:=Zab (HS.out.later hb);have HC:=Zab (HC.out.later hb);have HB:=Zab (Zac HB.out hb);clear hb);go_roundw
        case rel=>exact⟨k+1,by omega,by go_num,by rw[HFN.out];rfl,HS.out,HC.out,HB.out⟩
        case measure=>simp[intOf];omega
    · obtain rfl:k=3:=by omega
      go_upto_region 10 with fail
      go_loopw [6,8] (fun f ix wr=>∃i:Nat,i≤2∧ix=Vi i∧f=.bool (fX C S sv i)∧Blk 41 wr QS (stL S)∧Blk 29 wr w.heap.size (crL C)∧Below w.heap.size w wr) (fun _ ix _=>2-(intOf ix).toNat)
      case atStart=>exact⟨0,by omega,rfl,rfl,hs,hc,hbw⟩
      case round=>
       clear hs hc hbw;obtain⟨i,hi2,rfl,rfl,hs,hc,hbw⟩:=hrel
       by_cases hi:i<2
       · have i0:(0:Int)≤(i:Int):=by omega
         have i1:(i:Int)<2:=by omega
         have HX:=Zab (hc.sub (i*15) 15);rw[cr_axis C hi] at HX;have HAC1:=Zab (HAC.out _ hbw i hi);have HA0:Hid (Blk 26 (wr.alloc (.cells (axL C i).toArray 26)) wr.heap.size (axL C i)):=Zab (Blk.new wr _ _);have HS:=Zab (hs.later (Zaa wr (.cells (axL C i).toArray 26)));have HC:=Zab (hc.later (Zaa wr (.cells (axL C i).toArray 26)));have HB:=Zab (Zac hbw (Zaa wr (.cells (axL C i).toArray 26)));have HAC1:=Zab (HAC1.out.later (Zaa wr (.cells (axL C i).toArray 26)));clear hs hc hbw
         go_upto_region 13 with(first
          |(refine Lq 26 _ rfl ?_;refine wpList_load_mid rfl 26 (.tmp 38) rfl w.heap.size (i*15) rfl (axL C i) _ HX.out underlying26 rfl Zav ?_)
          |(refine Sq 26 _ _ rfl ?_;refine Zct (c':=(axL C i).toArray) (.tmp 9) (.tmp 39) rfl rfl rfl rfl rfl rfl (Zaq _ rfl) ?_))
         generalize wr.alloc (.cells (axL C i).toArray 26)=y0 at *;generalize wr.heap.size=QA at HA0⊢;clear HX;have hsv:=(HS.out.cell (Zdq S hi)).1;rw[(HV.out i hi).1] at hsv;have hax4:=(HA0.out.cell (show(axL C i)[4]?=some (Vi (C.a i 4)) from rfl)).1;have HAXr:=Zab HA0.out.range;have HHDr:=Zab (HS.out.sub (23+i*3) 3);rw[st_hold S hi] at HHDr
         unfold hdL at HHDr
         have hhm0:=fun u (h:Below y0.heap.size y0 u)=>holdMay_any (C.a i 0) (C.a i 1) (C.a i 11) (C.a i 14) (moI C i) (C.p i) (C.q i) (C.cn i) (C.cm i) (C.al i) (C.zl i) (S.hd i).1 (S.hd i).2.1 (S.hd i).2.2 0 0 0 0 0 HAC1.out.m0 HAC1.out.m1 u (HAC1.out.la.later h) (HAC1.out.lz.later h);have HCE:Hid (chE C i (S.hd i)=hoE (C.a i 0) (C.a i 1) (C.a i 11) (C.a i 14) (moI C i) (C.al i) (C.zl i) (S.hd i).1 (S.hd i).2.1 (S.hd i).2.2 0 0 0):=Zab rfl;have hhr0:=Zbu (C.a i 0) (C.a i 1) (C.a i 2) (C.a i 3) (C.a i 4) (C.a i 5) (C.a i 6) (C.a i 7) (C.a i 8) (C.a i 9) (C.a i 10) (C.a i 11) (C.a i 14) (C.p i) (C.q i) (C.al i).length (C.zl i).length (C.cn i) (C.cm i) HAC1.out.h4 HAC1.out.h5;have hhr:∀u,Calls prog 44 #[.agg #[Vi (C.a i 0),Vi (C.a i 1),Vi (C.a i 2),Vi (C.a i 3),Vi (C.a i 4),Vi (C.a i 5),Vi (C.a i 6),Vi (C.a i 7),Vi (C.a i 8),Vi (C.a i 9),Vi (C.a i 10),Vi (C.a i 11),.slice (C.p i) (C.al i).length (C.cn i),.slice (C.q i) (C.zl i).length (C.cm i),Vi (C.a i 14)]] u fun e w'=>e=.returned (.agg #[Vi (C.a i 0),Vi (C.a i 1),Vi (C.a i 11),Vi (C.a i 14),Vi (moI C i),.slice (C.p i) (C.al i).length (C.cn i),.slice (C.q i) (C.zl i).length (C.cm i)])∧Below u.heap.size u w':=hhr0;have HFN:Hid (fX C S sv (i+1)=(fX C S sv i&&decide (((sv i).length:Int)=C.a i 4)&&decide (chE C i (S.hd i)=0)&&decide (seU C i (sv i) (sv i).length=0))):=Zab rfl;clear hhr0 HAC1;rw[←HCE.out] at hhm0;have hhm:=hhm0;clear hhm0 HCE;generalize chE C i (S.hd i)=ce at *;generalize (S.hd i).1=h0 at *;generalize (S.hd i).2.1=h1 at *;generalize (S.hd i).2.2=h2 at *;generalize moI C i=mo at *;generalize fX C S sv i=fb at *;generalize hm:(sv i).length=m at *;(try simp only[Act.put])
         go_cut [6] (fun f u=>f=.bool (fb&&decide ((m:Int)=C.a i 4)&&decide (ce=0))∧Below y0.heap.size y0 u)
         case first=>
          cases fb
          · skip
            refine Cs [40,41,42,43,44,45,46,47,48,49,50,51,52,53,54,55,56,57,58,59,60,61] ?_;refine Cp 0 40 [] ?_;refine Cp 1 41 [0] ?_;refine Cz 2 42 [1] ?_ (hw:=fun y w hF=>wnF (congrArg some hF.1));refine Cz 3 43 [1] ?_ (hw:=fun y w hF=>wnF (congrArg some hF.1));refine Cz 4 44 [1] ?_ (hw:=fun y w hF=>wnF (congrArg some hF.1));refine Cz 5 45 [1] ?_ (hw:=fun y w hF=>wnF (congrArg some hF.1));refine Cz 6 46 [1] ?_ (hw:=fun y w hF=>wnF (congrArg some hF.1));refine Cz 7 47 [1] ?_ (hw:=fun y w hF=>wnF (congrArg some hF.1));refine Cz 8 48 [1] ?_ (hw:=fun y w hF=>wnF (congrArg some hF.1));refine Cz 9 49 [1] ?_ (hw:=fun y w hF=>wnF (congrArg some hF.1));refine Cp 10 50 [1,9] ?_;refine Cp 11 51 [10] ?_;refine Cz 12 52 [11] ?_ (hw:=fun y w hF=>wnF (congrArg some hF.1));refine Cz 13 53 [11] ?_ (hw:=fun y w hF=>wnF (congrArg some hF.1));refine Cz 14 54 [11] ?_ (hw:=fun y w hF=>wnF (congrArg some hF.1));refine Cz 15 55 [11] ?_ (hw:=fun y w hF=>wnF (congrArg some hF.1));refine Cz 16 56 [11] ?_ (hw:=fun y w hF=>wnF (congrArg some hF.1));refine Cz 17 57 [11] ?_ (hw:=fun y w hF=>wnF (congrArg some hF.1));refine Cz 18 58 [11] ?_ (hw:=fun y w hF=>wnF (congrArg some hF.1));refine Cz 19 59 [11] ?_ (hw:=fun y w hF=>wnF (congrArg some hF.1));refine Cz 20 60 [11] ?_ (hw:=fun y w hF=>wnF (congrArg some hF.1));refine Cp 21 61 [11,20] ?_;refine Cn 1 23 [22] (fun y u1 hB hf=>?_);have HS1:=Zab hB;clear hB hf;refine Tq 22 HS1.out ?_;simp only[Act.put,Ly];refine wpAnyH_done (by kernel_rfl) ?_ _;go_simp;have hB:=HS1.out;clear HS1;generalize u1=z1 at hB  ⊢;go_wp2_with fail
            go_meet
            case rel=>exact⟨rfl,hB⟩
          · by_cases hle:(m:Int)=C.a i 4
            · have hd1:decide ((m:Int)=C.a i 4)=true:=by simpa using hle
              refine Cs [40,41,42,43,44,45,46,47,48,49,50,51,52,53,54,55,56,57,58,59,60,61] ?_;refine Cp 0 40 [] ?_;refine Cp 1 41 [0] ?_;refine Cp 2 42 [1] ?_ (hw:=fun y w hF=>wnT (congrArg some hF.1));refine Cp 3 43 [1] ?_ (hw:=fun y w hF=>wnT (congrArg some hF.1));refine Cp 4 44 [3,2,1] ?_ (hw:=fun y w hF=>wnT (congrArg some hF.2.2.1));refine Cq (fun _ h=>cell_later h hsv) 5 45 [4,1] ?_ (hw:=fun y w hF=>wnT (congrArg some hF.2.1));refine Cp 6 46 [5,1] ?_ (hw:=fun y w hF=>wnT (congrArg some hF.2.1));refine Cp 7 47 [1] ?_ (hw:=fun y w hF=>wnT (congrArg some hF.1));refine Cq (fun _ h=>cell_later h hax4) 8 48 [7,1] ?_ (hw:=fun y w hF=>wnT (congrArg some hF.2.1));refine Cp 9 49 [6,8,1] ?_ (hw:=fun y w hF=>wnT (congrArg some hF.2.2.1));refine Cp 10 50 [1,9] ?_;refine Cp 11 51 [10] ?_;refine Cl (x:=.tmp 9) 12 52 [11] (fun y w _ u hSw=>⟨Zae HAXr.out hSw,rfl⟩) underlying26 Zav ?_ (hw:=fun y w hF=>wnT (congrArg some hF.1));refine Cc 13 53 [12,11] (fun y w h _=>hhr _) ?_ (hw:=fun y w hF=>wnT (congrArg some hF.2.1));refine Cp 14 54 [11] ?_ (hw:=fun y w hF=>wnT (congrArg some hF.1));refine Cp 15 55 [11] ?_ (hw:=fun y w hF=>wnT (congrArg some hF.1));refine Cp 16 56 [15,14,11] ?_ (hw:=fun y w hF=>wnT (congrArg some hF.2.2.1));refine Cl (x:=.tmp 56) 17 57 [16,11] (fun y w hF u hSw=>⟨Zae HHDr.out hSw,hF.1⟩) underlying38 Zcj ?_ (hw:=fun y w hF=>wnT (congrArg some hF.2.1));refine Cp 18 58 [11] ?_ (hw:=fun y w hF=>wnT (congrArg some hF.1));refine Cc 19 59 [13,17,18,11] (fun y w h _=>hhm _ h) ?_ (hw:=fun y w hF=>wnT (congrArg some hF.2.2.2.1));refine Cp 20 60 [19,11] ?_ (hw:=fun y w hF=>wnT (congrArg some hF.2.1));refine Cp 21 61 [11,20] ?_;refine Cn 1 23 [22] (fun y u1 hB hf=>?_);have HS1:=Zab hB;clear hB hf;refine Tq 22 HS1.out ?_;simp only[Act.put,Ly];refine wpAnyH_done (by kernel_rfl) ?_ _;go_simp;have hB:=HS1.out;clear HS1;generalize u1=z1 at hB  ⊢;go_wp2_with fail
              go_meet
              case rel=>exact⟨by rw[hd1];rfl,hB⟩
            · have hd1:decide ((m:Int)=C.a i 4)=false:=by simpa using hle
              have hd2:((m:Int)==C.a i 4)=false:=by simpa using hle
              have hd3:((m:Int)=C.a i 4)=False:=eq_false hle;refine Cs [40,41,42,43,44,45,46,47,48,49,50,51,52,53,54,55,56,57,58,59,60,61] ?_;refine Cp 0 40 [] ?_;refine Cp 1 41 [0] ?_;refine Cp 2 42 [1] ?_ (hw:=fun y w hF=>wnT (congrArg some hF.1));refine Cp 3 43 [1] ?_ (hw:=fun y w hF=>wnT (congrArg some hF.1));refine Cp 4 44 [3,2,1] ?_ (hw:=fun y w hF=>wnT (congrArg some hF.2.2.1));refine Cq (fun _ h=>cell_later h hsv) 5 45 [4,1] ?_ (hw:=fun y w hF=>wnT (congrArg some hF.2.1));refine Cp 6 46 [5,1] ?_ (hw:=fun y w hF=>wnT (congrArg some hF.2.1));refine Cp 7 47 [1] ?_ (hw:=fun y w hF=>wnT (congrArg some hF.1));refine Cq (fun _ h=>cell_later h hax4) 8 48 [7,1] ?_ (hw:=fun y w hF=>wnT (congrArg some hF.2.1));refine Cp 9 49 [6,8,1] ?_ (hw:=fun y w hF=>wnT (congrArg some hF.2.2.1));refine Cp 10 50 [1,9] ?_;refine Cp 11 51 [10] ?_;refine Cz 12 52 [11] ?_ (hw:=fun y w hF=>wnF (congrArg some hF.1));refine Cz 13 53 [11] ?_ (hw:=fun y w hF=>wnF (congrArg some hF.1));refine Cz 14 54 [11] ?_ (hw:=fun y w hF=>wnF (congrArg some hF.1));refine Cz 15 55 [11] ?_ (hw:=fun y w hF=>wnF (congrArg some hF.1));refine Cz 16 56 [11] ?_ (hw:=fun y w hF=>wnF (congrArg some hF.1));refine Cz 17 57 [11] ?_ (hw:=fun y w hF=>wnF (congrArg some hF.1));refine Cz 18 58 [11] ?_ (hw:=fun y w hF=>wnF (congrArg some hF.1));refine Cz 19 59 [11] ?_ (hw:=fun y w hF=>wnF (congrArg some hF.1));refine Cz 20 60 [11] ?_ (hw:=fun y w hF=>wnF (congrArg some hF.1));refine Cp 21 61 [11,20] ?_;refine Cn 1 23 [22] (fun y u1 hB hf=>?_);have HS1:=Zab hB;clear hB hf;refine Tq 22 HS1.out ?_;simp only[Act.put,Ly];refine wpAnyH_done (by kernel_rfl) ?_ _;go_simp;have hB:=HS1.out;clear HS1;generalize u1=z1 at hB  ⊢;go_wp2_with fail
              go_meet
              case rel=>exact⟨by rw[hd1];rfl,hB⟩
         case rest=>
          obtain⟨rfl,hB⟩:=hcut;rename World=>y1;have HS:=Zab (HS.out.later hB);have HC:=Zab (HC.out.later hB);have HA0:=Zab (HA0.out.later hB);have HB:=Zab (Zac HB.out hB);have hsv:=cell_later hB hsv;have har:=Zbq (C.a i 0) (C.a i 1) (C.a i 2) (C.a i 3) (C.a i 4) (C.a i 5) (C.a i 6) (C.a i 7) (C.a i 8) (C.a i 9) (C.a i 10) (C.a i 11) (C.a i 14) (C.p i) (C.q i) (C.al i).length (C.zl i).length (C.cn i) (C.cm i);clear hB hax4 HAXr HHDr hhm hhr;generalize hr1:(fb&&decide ((m:Int)=C.a i 4)&&decide (ce=0))=r1 at HFN⊢;clear hr1
          go_upto_region 15 with fail
          go_loopw [6,10] (fun f kx wr=>∃k:Nat,k≤m∧kx=Vi k∧f=.bool (r1&&decide (seU C i (sv i) k=0))∧Blk 41 wr QS (stL S)∧Blk 29 wr w.heap.size (crL C)∧Blk 26 wr QA (axL C i)∧Below w.heap.size w wr) (fun _ kx _=>m-(intOf kx).toNat)
          case atStart=>exact⟨0,by omega,rfl,by rw[show decide (seU C i (sv i) 0=0)=true from rfl,Bool.and_true],HS.out,HC.out,HA0.out,HB.out⟩
          case round=>
           clear HS HC HA0 HB hsv;obtain⟨k,hk,rfl,rfl,hs,hc,ha,hbw⟩:=hrel;have hsv:=(hs.cell (Zdq S hi)).1;rw[(HV.out i hi).1,hm] at hsv
           have k0:(0:Int)≤(k:Int):=by omega
           have hm9:m≤9:=by rw[←hm];exact(HV.out i hi).2.1
           by_cases hlt:k<m
           · have k1:(k:Int)<(m:Int):=by omega
             have kd:decide ((k:Int)<(m:Int))=true:=by simpa using k1
             by_cases hg:(r1&&decide (seU C i (sv i) k=0))=true
             · obtain⟨b,off,hpo,c0,c1,c2⟩:=((HV.out i hi).2.2.later hbw).at (k:=k) (by omega);rw[hpo] at hsv;rw[hg]
               have hg1:r1=true∧seU C i (sv i) k=0:=by simpa using hg
               have HSE:Hid (seU C i (sv i) (k+1)=svE (C.a i 5) (C.a i 6) (C.a i 7) (C.a i 10) (svAt (sv i) k).1 (svAt (sv i) k).2.1 (svAt (sv i) k).2.2):=Zab (by rw[seU,if_pos hg1.2]);have hsm:=servoMay_any (C.a i 5) (C.a i 6) (C.a i 7) (C.a i 10) (svAt (sv i) k).1 (svAt (sv i) k).2.1 (svAt (sv i) k).2.2;have HR1:=Zab hg1.1;generalize svE (C.a i 5) (C.a i 6) (C.a i 7) (C.a i 10) (svAt (sv i) k).1 (svAt (sv i) k).2.1 (svAt (sv i) k).2.2=se at *;generalize (svAt (sv i) k).1=si at *;generalize (svAt (sv i) k).2.1=sb at *;generalize (svAt (sv i) k).2.2=so at *;have HS:=Zab hs;have HC:=Zab hc;have HA:=Zab ha;have HBW:=Zab hbw;have HAXr:=Zab ha.range;have HSVr:=Zab (range3e c0 c1 c2);clear hs hc ha hbw c0 c1 c2 hg hg1 hpo
               go_upto_region 17 with fail;refine Cs [74,75,76,77,78,79,80,81,82,83,84,6] ?_;refine Cl (x:=.tmp 9) 0 74 [] (fun y w _ u hSw=>⟨Zae HAXr.out hSw,rfl⟩) underlying26 Zav ?_;refine Cc 1 75 [0] (fun y w h _=>har _) ?_;refine Cp 2 76 [] ?_;refine Cp 3 77 [] ?_;refine Cp 4 78 [3,2] ?_;refine Cq (fun _ h=>cell_later h hsv) 5 79 [4] ?_;refine Cp 6 80 [] ?_;refine Cp 7 81 [5,6] ?_;refine Cl (x:=.tmp 81) 8 82 [7] (fun y w hF u hSw=>⟨Zae HSVr.out hSw,hF.1⟩) underlying116 Zgl ?_;refine Cc 9 83 [1,8] (fun y w h _=>hsm _) ?_;refine Cp 10 84 [9] ?_;refine Cp 11 6 [10] ?_;refine Ce (fun y u1 hB hf=>?_);have HS1:=Zab hB;clear hB hf;go_simp;have hB:=HS1.out;clear HS1;generalize u1=z2 at hB  ⊢;refine Zby (by assumption) ?_;have HS:=Zab (HS.out.later hB);have HC:=Zab (HC.out.later hB);have HA:=Zab (HA.out.later hB);have HBW:=Zab (Zac HBW.out hB);clear hB HAXr HSVr hsv;go_wp2_with fail;go_roundw
               case rel=>exact⟨k+1,by omega,by go_num,by rw[HSE.out,HR1.out];rfl,HS.out,HC.out,HA.out,HBW.out⟩
               case measure=>simp[intOf];omega
             · have hgf:(r1&&decide (seU C i (sv i) k=0))=false:=by simpa using hg
               rw[hgf]
               have HEN:Hid (fX C S sv (i+1)=false):=Zab (by
                rw[HFN.out]
                by_cases h1:r1=true
                · have h2:seU C i (sv i) k≠0:=fun e=>hg (by rw[h1,e];rfl);rw[seU_stay h2 m (by omega)]
                  simp[h2]
                · have:r1=false:=by simpa using h1
                  rw[this];rfl)
               go_wp2_with fail;go_roundw
               case rel=>
                (repeat apply Exists.intro)
                exact⟨⟨i+1,by omega,by go_num,by rw[HEN.out],hs,hc,hbw⟩,rfl⟩
               case measure=>simp[intOf];omega
           · obtain rfl:k=m:=by omega
             have kd:decide ((k:Int)<(k:Int))=false:=by simp
             go_wp2_with fail;go_roundw
             case rel=>
              (repeat apply Exists.intro)
              exact⟨⟨i+1,by omega,by go_num,by rw[HFN.out],hs,hc,hbw⟩,rfl⟩
             case measure=>simp[intOf];omega
       · obtain rfl:i=2:=by omega
         have hwh:=Zcr (!fz) 3;rw[HFZ.out];clear HFZ
         cases fz
         · go_wp2_with (go_at_call 14;refine(hwh _).mono ?_;rintro e w' ⟨rfl,rfl⟩);go_ret;exact⟨rfl,hbw⟩
         · go_wp2_with (go_at_call 14;refine(hwh _).mono ?_;rintro e w' ⟨rfl,rfl⟩);go_ret;exact⟨rfl,hbw⟩
 · have HE:Hid (stE C S sv=crE C):=Zab (by unfold stE;rw[if_neg h0]);rw[HE.out];clear hl hv HE;generalize crE C=ce at*
   have hd:decide (ce=0)=false:=by simpa using h0
   go_enter func12,ntmps12
   go_wp2_with (first
    |(refine Lq 29 _ rfl ?_;refine wpList_load_mid rfl 29 (.tmp 2) rfl w.heap.size 0 rfl (crL C) _ HCr.out underlying29 rfl Zaw ?_)
    |(go_at_call 41;refine Sb (hck _ HB.out) fun w1 hb=>?_;have HB:=Zab (Zac HB.out hb);clear hb))
   go_ret;exact⟨rfl,HB.out⟩
theorem U32s.at{w:World}{a:Option Addr}{zs:List Int}(h:U32s w a zs){k:Nat}(hk:k<zs.length):∃g,a=some (Ad g 0)∧w.cell? (Ad g k)=some (.int .u32 (zs.getD k 0)):=by
 rcases h with h|⟨g,h,hc⟩
 · subst h;simp at hk
 · exact⟨g,h,hc k hk⟩
theorem sameWords_l(l:List Int)(a a':Option Addr)(cap cap':Nat)(hl:l.length≤1000)(w:World)(hv:U32s w a l)(hv':U32s w a' l):
 Calls prog 20 #[.slice a l.length cap,.slice a' l.length cap'] w fun e w'=>e=.returned (.bool true)∧Below w.heap.size w w':=by
 have HV:=Zab hv;have HW:=Zab hv';clear hv hv'
 go_enter func20,ntmps20
 go_wp2
 go_loopw [5] (fun i wr=>∃k:Nat,k≤l.length∧i=Vi k∧Below w.heap.size w wr) (fun i _=>l.length-(intOf i).toNat)
 case atStart=>exact⟨0,Nat.zero_le _,rfl,Below.refl _ _⟩
 case round=>
  obtain⟨k,hk,rfl,hb⟩:=hrel
  by_cases hlt:k<l.length
  · obtain⟨bl,rfl,d0⟩:=(HV.out.later hb).at hlt;obtain⟨bm,rfl,e0⟩:=(HW.out.later hb).at hlt;have HB:=Zab hb
    have j0:(0:Int)≤(k:Int):=by omega
    have j1:(k:Int)<(l.length:Int):=by omega
    clear hb;generalize l.getD k 0=x at*
    have hxx:(x != x)=false:=by simp
    go_wp2;go_quiet (fail);go_wp2;go_roundw
    case rel=>exact⟨k+1,by omega,by go_num,Zac HB.out (below_drewN (Below.refl _ _) _)⟩
    case measure=>simp[intOf];omega
  · have e:k=l.length:=by omega
    subst e;go_wp2;go_ret;exact⟨rfl,hb⟩
theorem infoB:∃i,prog.info? 4=some i∧i.size=1:=by
 have h:(prog.info? 4).map (·.size)=some 1:=by kernel_rfl
 cases hq:prog.info? 4 with
 |none=>rw[hq] at h;cases h
 |some i=>rw[hq] at h;exact⟨i,rfl,by simpa using h⟩
theorem cellsB:prog.cellsOf 4=1:=by kernel_rfl
theorem eqI3(d:Nat)(a b c:Int)(w:World):(Op.equalIn (d+1+1) 30 (.agg #[Vi a,Vi b,Vi c]) (.agg #[Vi a,Vi b,Vi c])).run prog w=.ok true w:=by
 obtain⟨i,hi,_⟩:=info_int;rw[run_equalIn_array w _ _ _ underlying30 hi,who_one,show List.range 3=[0,1,2] from rfl]
 simp[Op.eqItems,go_sem]
theorem eqB3(d:Nat)(a b c:Bool)(w:World):(Op.equalIn (d+1+1) 31 (.agg #[.bool a,.bool b,.bool c]) (.agg #[.bool a,.bool b,.bool c])).run prog w=.ok true w:=by
 obtain⟨i,hi,_⟩:=infoB;rw[run_equalIn_array w _ _ _ underlying31 hi,cellsB,show List.range 3=[0,1,2] from rfl]
 simp[Op.eqItems,go_sem]
theorem eqBk(d:Nat)(k:Bk)(w:World):(Op.equalIn (d+1+1+1) 33 (.agg #[Vi (k.b 0),Vi (k.b 1),Vi (k.b 2),.bool (k.o 0),.bool (k.o 1),.bool (k.o 2),Vi k.l]) (.agg #[Vi (k.b 0),Vi (k.b 1),Vi (k.b 2),.bool (k.o 0),.bool (k.o 1),.bool (k.o 2),Vi k.l])).run prog w=.ok true w:=by
 have h1:=fun d=>eqI3 d (k.b 0) (k.b 1) (k.b 2);have h2:=fun d=>eqB3 d (k.o 0) (k.o 1) (k.o 2)
 simp[go_sem,h1,h2]
theorem eqHd(d:Nat)(h:Int×Int×Int)(w:World):(Op.equalIn (d+1+1) 38 (.agg #[Vi h.1,Vi h.2.1,Vi h.2.2]) (.agg #[Vi h.1,Vi h.2.1,Vi h.2.2])).run prog w=.ok true w:=by
 simp[go_sem]
theorem infoOf(t:TypeId)(n:Nat)(h:(prog.info? t).map (·.size)=some n):∃i,prog.info? t=some i:=by
 cases hq:prog.info? t with
 |none=>rw[hq] at h;cases h
 |some i=>exact⟨i,rfl⟩
theorem cellsBk:prog.cellsOf 33=7:=by kernel_rfl
theorem cellsHd:prog.cellsOf 38=3:=by kernel_rfl
theorem eqBk3(d:Nat)(p q r:Bk)(w:World):(Op.equalIn (d+1+1+1+1) 34 (.agg #[Vi (p.b 0),Vi (p.b 1),Vi (p.b 2),.bool (p.o 0),.bool (p.o 1),.bool (p.o 2),Vi p.l,Vi (q.b 0),Vi (q.b 1),Vi (q.b 2),.bool (q.o 0),.bool (q.o 1),.bool (q.o 2),Vi q.l,Vi (r.b 0),Vi (r.b 1),Vi (r.b 2),.bool (r.o 0),.bool (r.o 1),.bool (r.o 2),Vi r.l]) (.agg #[Vi (p.b 0),Vi (p.b 1),Vi (p.b 2),.bool (p.o 0),.bool (p.o 1),.bool (p.o 2),Vi p.l,Vi (q.b 0),Vi (q.b 1),Vi (q.b 2),.bool (q.o 0),.bool (q.o 1),.bool (q.o 2),Vi q.l,Vi (r.b 0),Vi (r.b 1),Vi (r.b 2),.bool (r.o 0),.bool (r.o 1),.bool (r.o 2),Vi r.l])).run prog w=.ok true w:=by
 obtain⟨i,hi⟩:=infoOf _ _ Zej;have h1:=fun d=>eqBk d p;have h2:=fun d=>eqBk d q;have h3:=fun d=>eqBk d r;rw[run_equalIn_array w _ _ _ underlying34 hi,cellsBk,show List.range 3=[0,1,2] from rfl]
 simp[Op.eqItems,go_sem,h1,h2,h3]
theorem eqHd2(d:Nat)(h k:Int×Int×Int)(w:World):(Op.equalIn (d+1+1+1) 39 (.agg #[Vi h.1,Vi h.2.1,Vi h.2.2,Vi k.1,Vi k.2.1,Vi k.2.2]) (.agg #[Vi h.1,Vi h.2.1,Vi h.2.2,Vi k.1,Vi k.2.1,Vi k.2.2])).run prog w=.ok true w:=by
 obtain⟨i,hi⟩:=infoOf _ _ Zcj;have h1:=fun d=>eqHd d h;have h2:=fun d=>eqHd d k;rw[run_equalIn_array w _ _ _ underlying39 hi,cellsHd,show List.range 2=[0,1] from rfl]
 simp[Op.eqItems,go_sem,h1,h2]
theorem sameServos_s(L:List Sv)(a a':Option Addr)(cap cap':Nat)(hl:L.length≤1000)(w:World)(hv:VLs w a L)(hv':VLs w a' L):
 Calls prog 66 #[.slice a L.length cap,.slice a' L.length cap'] w fun e w'=>e=.returned (.bool true)∧Below w.heap.size w w':=by
 have HV:=Zab hv;have HW:=Zab hv';clear hv hv'
 go_enter func66,ntmps66
 go_wp2
 go_loopw [5] (fun i wr=>∃k:Nat,k≤L.length∧i=Vi k∧Below w.heap.size w wr) (fun i _=>L.length-(intOf i).toNat)
 case atStart=>exact⟨0,Nat.zero_le _,rfl,Below.refl _ _⟩
 case round=>
  obtain⟨k,hk,rfl,hb⟩:=hrel
  by_cases hlt:k<L.length
  · obtain⟨bl,ol,rfl,d0,d1,d2⟩:=(HV.out.later hb).at hlt;obtain⟨bm,om,rfl,e0,e1,e2⟩:=(HW.out.later hb).at hlt;have HB:=Zab hb
    have j0:(0:Int)≤(k:Int):=by omega
    have j1:(k:Int)<(L.length:Int):=by omega
    clear hb;generalize (svAt L k).1=x at *;generalize (svAt L k).2.1=y at *;generalize (svAt L k).2.2=z at *;go_wp2;go_quiet (fail);go_wp2;go_roundw
    case rel=>exact⟨k+1,by omega,by go_num,Zac HB.out (below_drewN (Below.refl _ _) _)⟩
    case measure=>simp[intOf];omega
  · have e:k=L.length:=by omega
    subst e;go_wp2;go_ret;exact⟨rfl,hb⟩
theorem sameState_l(p q r:Bk)(h k:Int×Int×Int)(n:Int)(x0 x1 y0 y1:Option Addr)(m0 m1 c0 c1 d0 d1:Nat)(w:World)
 (s0:∀u,Below w.heap.size w u→Calls prog 66 #[.slice x0 m0 c0,.slice y0 m0 d0] u fun e w'=>e=.returned (.bool true)∧Below u.heap.size u w')
 (s1:∀u,Below w.heap.size w u→Calls prog 66 #[.slice x1 m1 c1,.slice y1 m1 d1] u fun e w'=>e=.returned (.bool true)∧Below u.heap.size u w'):
 Calls prog 19 #[.agg #[Vi (p.b 0),Vi (p.b 1),Vi (p.b 2),.bool (p.o 0),.bool (p.o 1),.bool (p.o 2),Vi p.l,Vi (q.b 0),Vi (q.b 1),Vi (q.b 2),.bool (q.o 0),.bool (q.o 1),.bool (q.o 2),Vi q.l,Vi (r.b 0),Vi (r.b 1),Vi (r.b 2),.bool (r.o 0),.bool (r.o 1),.bool (r.o 2),Vi r.l,.slice x0 m0 c0,.slice x1 m1 c1,Vi h.1,Vi h.2.1,Vi h.2.2,Vi k.1,Vi k.2.1,Vi k.2.2,Vi n],.agg #[Vi (p.b 0),Vi (p.b 1),Vi (p.b 2),.bool (p.o 0),.bool (p.o 1),.bool (p.o 2),Vi p.l,Vi (q.b 0),Vi (q.b 1),Vi (q.b 2),.bool (q.o 0),.bool (q.o 1),.bool (q.o 2),Vi q.l,Vi (r.b 0),Vi (r.b 1),Vi (r.b 2),.bool (r.o 0),.bool (r.o 1),.bool (r.o 2),Vi r.l,.slice y0 m0 d0,.slice y1 m1 d1,Vi h.1,Vi h.2.1,Vi h.2.2,Vi k.1,Vi k.2.1,Vi k.2.2,Vi n]] w fun e w'=>e=.returned (.bool true)∧Below w.heap.size w w':=by
 have HA:Hid (Blk 41 ((w.alloc (.cells #[Vi (p.b 0),Vi (p.b 1),Vi (p.b 2),.bool (p.o 0),.bool (p.o 1),.bool (p.o 2),Vi p.l,Vi (q.b 0),Vi (q.b 1),Vi (q.b 2),.bool (q.o 0),.bool (q.o 1),.bool (q.o 2),Vi q.l,Vi (r.b 0),Vi (r.b 1),Vi (r.b 2),.bool (r.o 0),.bool (r.o 1),.bool (r.o 2),Vi r.l,.slice x0 m0 c0,.slice x1 m1 c1,Vi h.1,Vi h.2.1,Vi h.2.2,Vi k.1,Vi k.2.1,Vi k.2.2,Vi n] 41)).alloc (.cells #[Vi (p.b 0),Vi (p.b 1),Vi (p.b 2),.bool (p.o 0),.bool (p.o 1),.bool (p.o 2),Vi p.l,Vi (q.b 0),Vi (q.b 1),Vi (q.b 2),.bool (q.o 0),.bool (q.o 1),.bool (q.o 2),Vi q.l,Vi (r.b 0),Vi (r.b 1),Vi (r.b 2),.bool (r.o 0),.bool (r.o 1),.bool (r.o 2),Vi r.l,.slice y0 m0 d0,.slice y1 m1 d1,Vi h.1,Vi h.2.1,Vi h.2.2,Vi k.1,Vi k.2.1,Vi k.2.2,Vi n] 41)) w.heap.size [Vi (p.b 0),Vi (p.b 1),Vi (p.b 2),.bool (p.o 0),.bool (p.o 1),.bool (p.o 2),Vi p.l,Vi (q.b 0),Vi (q.b 1),Vi (q.b 2),.bool (q.o 0),.bool (q.o 1),.bool (q.o 2),Vi q.l,Vi (r.b 0),Vi (r.b 1),Vi (r.b 2),.bool (r.o 0),.bool (r.o 1),.bool (r.o 2),Vi r.l,.slice x0 m0 c0,.slice x1 m1 c1,Vi h.1,Vi h.2.1,Vi h.2.2,Vi k.1,Vi k.2.1,Vi k.2.2,Vi n]):=Zab ((Blk.new w 41 [Vi (p.b 0),Vi (p.b 1),Vi (p.b 2),.bool (p.o 0),.bool (p.o 1),.bool (p.o 2),Vi p.l,Vi (q.b 0),Vi (q.b 1),Vi (q.b 2),.bool (q.o 0),.bool (q.o 1),.bool (q.o 2),Vi q.l,Vi (r.b 0),Vi (r.b 1),Vi (r.b 2),.bool (r.o 0),.bool (r.o 1),.bool (r.o 2),Vi r.l,.slice x0 m0 c0,.slice x1 m1 c1,Vi h.1,Vi h.2.1,Vi h.2.2,Vi k.1,Vi k.2.1,Vi k.2.2,Vi n]).later (Zaa _ (.cells #[Vi (p.b 0),Vi (p.b 1),Vi (p.b 2),.bool (p.o 0),.bool (p.o 1),.bool (p.o 2),Vi p.l,Vi (q.b 0),Vi (q.b 1),Vi (q.b 2),.bool (q.o 0),.bool (q.o 1),.bool (q.o 2),Vi q.l,Vi (r.b 0),Vi (r.b 1),Vi (r.b 2),.bool (r.o 0),.bool (r.o 1),.bool (r.o 2),Vi r.l,.slice y0 m0 d0,.slice y1 m1 d1,Vi h.1,Vi h.2.1,Vi h.2.2,Vi k.1,Vi k.2.1,Vi k.2.2,Vi n] 41)))
 have HD:Hid (Blk 41 ((w.alloc (.cells #[Vi (p.b 0),Vi (p.b 1),Vi (p.b 2),.bool (p.o 0),.bool (p.o 1),.bool (p.o 2),Vi p.l,Vi (q.b 0),Vi (q.b 1),Vi (q.b 2),.bool (q.o 0),.bool (q.o 1),.bool (q.o 2),Vi q.l,Vi (r.b 0),Vi (r.b 1),Vi (r.b 2),.bool (r.o 0),.bool (r.o 1),.bool (r.o 2),Vi r.l,.slice x0 m0 c0,.slice x1 m1 c1,Vi h.1,Vi h.2.1,Vi h.2.2,Vi k.1,Vi k.2.1,Vi k.2.2,Vi n] 41)).alloc (.cells #[Vi (p.b 0),Vi (p.b 1),Vi (p.b 2),.bool (p.o 0),.bool (p.o 1),.bool (p.o 2),Vi p.l,Vi (q.b 0),Vi (q.b 1),Vi (q.b 2),.bool (q.o 0),.bool (q.o 1),.bool (q.o 2),Vi q.l,Vi (r.b 0),Vi (r.b 1),Vi (r.b 2),.bool (r.o 0),.bool (r.o 1),.bool (r.o 2),Vi r.l,.slice y0 m0 d0,.slice y1 m1 d1,Vi h.1,Vi h.2.1,Vi h.2.2,Vi k.1,Vi k.2.1,Vi k.2.2,Vi n] 41)) (w.heap.size+1) [Vi (p.b 0),Vi (p.b 1),Vi (p.b 2),.bool (p.o 0),.bool (p.o 1),.bool (p.o 2),Vi p.l,Vi (q.b 0),Vi (q.b 1),Vi (q.b 2),.bool (q.o 0),.bool (q.o 1),.bool (q.o 2),Vi q.l,Vi (r.b 0),Vi (r.b 1),Vi (r.b 2),.bool (r.o 0),.bool (r.o 1),.bool (r.o 2),Vi r.l,.slice y0 m0 d0,.slice y1 m1 d1,Vi h.1,Vi h.2.1,Vi h.2.2,Vi k.1,Vi k.2.1,Vi k.2.2,Vi n]):=Zab (by have:=Blk.new (w.alloc (.cells #[Vi (p.b 0),Vi (p.b 1),Vi (p.b 2),.bool (p.o 0),.bool (p.o 1),.bool (p.o 2),Vi p.l,Vi (q.b 0),Vi (q.b 1),Vi (q.b 2),.bool (q.o 0),.bool (q.o 1),.bool (q.o 2),Vi q.l,Vi (r.b 0),Vi (r.b 1),Vi (r.b 2),.bool (r.o 0),.bool (r.o 1),.bool (r.o 2),Vi r.l,.slice x0 m0 c0,.slice x1 m1 c1,Vi h.1,Vi h.2.1,Vi h.2.2,Vi k.1,Vi k.2.1,Vi k.2.2,Vi n] 41)) 41 [Vi (p.b 0),Vi (p.b 1),Vi (p.b 2),.bool (p.o 0),.bool (p.o 1),.bool (p.o 2),Vi p.l,Vi (q.b 0),Vi (q.b 1),Vi (q.b 2),.bool (q.o 0),.bool (q.o 1),.bool (q.o 2),Vi q.l,Vi (r.b 0),Vi (r.b 1),Vi (r.b 2),.bool (r.o 0),.bool (r.o 1),.bool (r.o 2),Vi r.l,.slice y0 m0 d0,.slice y1 m1 d1,Vi h.1,Vi h.2.1,Vi h.2.2,Vi k.1,Vi k.2.1,Vi k.2.2,Vi n];rw[World.size_alloc] at this;exact this)
 have HB:Hid (Below w.heap.size w ((w.alloc (.cells #[Vi (p.b 0),Vi (p.b 1),Vi (p.b 2),.bool (p.o 0),.bool (p.o 1),.bool (p.o 2),Vi p.l,Vi (q.b 0),Vi (q.b 1),Vi (q.b 2),.bool (q.o 0),.bool (q.o 1),.bool (q.o 2),Vi q.l,Vi (r.b 0),Vi (r.b 1),Vi (r.b 2),.bool (r.o 0),.bool (r.o 1),.bool (r.o 2),Vi r.l,.slice x0 m0 c0,.slice x1 m1 c1,Vi h.1,Vi h.2.1,Vi h.2.2,Vi k.1,Vi k.2.1,Vi k.2.2,Vi n] 41)).alloc (.cells #[Vi (p.b 0),Vi (p.b 1),Vi (p.b 2),.bool (p.o 0),.bool (p.o 1),.bool (p.o 2),Vi p.l,Vi (q.b 0),Vi (q.b 1),Vi (q.b 2),.bool (q.o 0),.bool (q.o 1),.bool (q.o 2),Vi q.l,Vi (r.b 0),Vi (r.b 1),Vi (r.b 2),.bool (r.o 0),.bool (r.o 1),.bool (r.o 2),Vi r.l,.slice y0 m0 d0,.slice y1 m1 d1,Vi h.1,Vi h.2.1,Vi h.2.2,Vi k.1,Vi k.2.1,Vi k.2.2,Vi n] 41))):=Zab (Zac (Zaa _ _) (Zaa _ _));have he2:=fun d=>eqBk3 d p q r;have he4:=fun d=>eqHd2 d h k;have he5:∀w,(Op.equal 34 (.agg #[Vi (p.b 0),Vi (p.b 1),Vi (p.b 2),.bool (p.o 0),.bool (p.o 1),.bool (p.o 2),Vi p.l,Vi (q.b 0),Vi (q.b 1),Vi (q.b 2),.bool (q.o 0),.bool (q.o 1),.bool (q.o 2),Vi q.l,Vi (r.b 0),Vi (r.b 1),Vi (r.b 2),.bool (r.o 0),.bool (r.o 1),.bool (r.o 2),Vi r.l]) (.agg #[Vi (p.b 0),Vi (p.b 1),Vi (p.b 2),.bool (p.o 0),.bool (p.o 1),.bool (p.o 2),Vi p.l,Vi (q.b 0),Vi (q.b 1),Vi (q.b 2),.bool (q.o 0),.bool (q.o 1),.bool (q.o 2),Vi q.l,Vi (r.b 0),Vi (r.b 1),Vi (r.b 2),.bool (r.o 0),.bool (r.o 1),.bool (r.o 2),Vi r.l])).run prog w=.ok true w:=fun w=>he2 _ w;have he6:∀w,(Op.equal 39 (.agg #[Vi h.1,Vi h.2.1,Vi h.2.2,Vi k.1,Vi k.2.1,Vi k.2.2]) (.agg #[Vi h.1,Vi h.2.1,Vi h.2.2,Vi k.1,Vi k.2.1,Vi k.2.2])).run prog w=.ok true w:=fun w=>he4 _ w
 go_enter func19,ntmps19
 go_upto_region 1 with fail;generalize (w.alloc (.cells #[Vi (p.b 0),Vi (p.b 1),Vi (p.b 2),.bool (p.o 0),.bool (p.o 1),.bool (p.o 2),Vi p.l,Vi (q.b 0),Vi (q.b 1),Vi (q.b 2),.bool (q.o 0),.bool (q.o 1),.bool (q.o 2),Vi q.l,Vi (r.b 0),Vi (r.b 1),Vi (r.b 2),.bool (r.o 0),.bool (r.o 1),.bool (r.o 2),Vi r.l,.slice x0 m0 c0,.slice x1 m1 c1,Vi h.1,Vi h.2.1,Vi h.2.2,Vi k.1,Vi k.2.1,Vi k.2.2,Vi n] 41)).alloc (.cells #[Vi (p.b 0),Vi (p.b 1),Vi (p.b 2),.bool (p.o 0),.bool (p.o 1),.bool (p.o 2),Vi p.l,Vi (q.b 0),Vi (q.b 1),Vi (q.b 2),.bool (q.o 0),.bool (q.o 1),.bool (q.o 2),Vi q.l,Vi (r.b 0),Vi (r.b 1),Vi (r.b 2),.bool (r.o 0),.bool (r.o 1),.bool (r.o 2),Vi r.l,.slice y0 m0 d0,.slice y1 m1 d1,Vi h.1,Vi h.2.1,Vi h.2.2,Vi k.1,Vi k.2.1,Vi k.2.2,Vi n] 41)=w0 at *;have HX:Hid (w0.rangeAt w.heap.size 0 [Vi (p.b 0),Vi (p.b 1),Vi (p.b 2),.bool (p.o 0),.bool (p.o 1),.bool (p.o 2),Vi p.l,Vi (q.b 0),Vi (q.b 1),Vi (q.b 2),.bool (q.o 0),.bool (q.o 1),.bool (q.o 2),Vi q.l,Vi (r.b 0),Vi (r.b 1),Vi (r.b 2),.bool (r.o 0),.bool (r.o 1),.bool (r.o 2),Vi r.l]):=Zab (HA.out.sub 0 21);have HY:Hid (w0.rangeAt (w.heap.size+1) 0 [Vi (p.b 0),Vi (p.b 1),Vi (p.b 2),.bool (p.o 0),.bool (p.o 1),.bool (p.o 2),Vi p.l,Vi (q.b 0),Vi (q.b 1),Vi (q.b 2),.bool (q.o 0),.bool (q.o 1),.bool (q.o 2),Vi q.l,Vi (r.b 0),Vi (r.b 1),Vi (r.b 2),.bool (r.o 0),.bool (r.o 1),.bool (r.o 2),Vi r.l]):=Zab (HD.out.sub 0 21);have ka21:=(HA.out.cell (j:=21) rfl).1;have kb21:=(HD.out.cell (j:=21) rfl).1;have ka22:=(HA.out.cell (j:=22) rfl).1;have kb22:=(HD.out.cell (j:=22) rfl).1;have ka23:=(HA.out.cell (j:=23) rfl).1;have kb23:=(HD.out.cell (j:=23) rfl).1;have ka24:=(HA.out.cell (j:=24) rfl).1;have kb24:=(HD.out.cell (j:=24) rfl).1;have ka25:=(HA.out.cell (j:=25) rfl).1;have kb25:=(HD.out.cell (j:=25) rfl).1;have ka26:=(HA.out.cell (j:=26) rfl).1;have kb26:=(HD.out.cell (j:=26) rfl).1;have ka27:=(HA.out.cell (j:=27) rfl).1;have kb27:=(HD.out.cell (j:=27) rfl).1;have ka28:=(HA.out.cell (j:=28) rfl).1;have kb28:=(HD.out.cell (j:=28) rfl).1;have ka29:=(HA.out.cell (j:=29) rfl).1;have kb29:=(HD.out.cell (j:=29) rfl).1
 go_wp2_with (first
  |(refine Lq 34 _ rfl ?_;refine wpList_load_mid rfl 34 (.tmp 5) rfl w.heap.size 0 rfl [Vi (p.b 0),Vi (p.b 1),Vi (p.b 2),.bool (p.o 0),.bool (p.o 1),.bool (p.o 2),Vi p.l,Vi (q.b 0),Vi (q.b 1),Vi (q.b 2),.bool (q.o 0),.bool (q.o 1),.bool (q.o 2),Vi q.l,Vi (r.b 0),Vi (r.b 1),Vi (r.b 2),.bool (r.o 0),.bool (r.o 1),.bool (r.o 2),Vi r.l] _ HX.out underlying34 rfl infoB21 ?_)
  |(refine Lq 34 _ rfl ?_;refine wpList_load_mid rfl 34 (.tmp 7) rfl (w.heap.size+1) 0 rfl [Vi (p.b 0),Vi (p.b 1),Vi (p.b 2),.bool (p.o 0),.bool (p.o 1),.bool (p.o 2),Vi p.l,Vi (q.b 0),Vi (q.b 1),Vi (q.b 2),.bool (q.o 0),.bool (q.o 1),.bool (q.o 2),Vi q.l,Vi (r.b 0),Vi (r.b 1),Vi (r.b 2),.bool (r.o 0),.bool (r.o 1),.bool (r.o 2),Vi r.l] _ HY.out underlying34 rfl infoB21 ?_)
  |(go_at_call_of 66 (Value.slice x0 m0 c0);refine Sb (s0 _ HB.out) fun w1 hb1=>?_;have HB1:=Zab (Zac HB.out hb1);have HA1:=Zab (HA.out.later hb1);have HD1:=Zab (HD.out.later hb1);have la:=(HA1.out.cell (j:=22) rfl).1;have lb:=(HD1.out.cell (j:=22) rfl).1;clear hb1 HA HD)
  |(go_at_call_of 66 (Value.slice x1 m1 c1);refine Sb (s1 _ HB1.out) fun w2 hb2=>?_;have HB2:=Zab (Zac HB1.out hb2);clear hb2))
 go_ret;exact⟨rfl,HB2.out⟩
theorem sameState_s(S T:FS)(sv:Nat→List Sv)(hb:T.bk 0=S.bk 0∧T.bk 1=S.bk 1∧T.bk 2=S.bk 2)(hh:T.hd 0=S.hd 0∧T.hd 1=S.hd 1)(hn:T.n=S.n)(w:World)(hv:SvL w S sv)(hv':SvL w T sv):
 Calls prog 19 #[.agg (stL S).toArray,.agg (stL T).toArray] w fun e w'=>e=.returned (.bool true)∧Below w.heap.size w w':=by
 have g:=fun i (hi:i<2) u (h:Below w.heap.size w u)=>sameServos_s (sv i) (S.sp i) (T.sp i) (S.sc i) (T.sc i) (by have:=(hv i hi).2.1;omega) u ((hv i hi).2.2.later h) ((hv' i hi).2.2.later h);have e0:=(hv 0 (by omega)).1;have e1:=(hv 1 (by omega)).1;have f0:=(hv' 0 (by omega)).1;have f1:=(hv' 1 (by omega)).1;have key:=sameState_l (S.bk 0) (S.bk 1) (S.bk 2) (S.hd 0) (S.hd 1) S.n (S.sp 0) (S.sp 1) (T.sp 0) (T.sp 1) (sv 0).length (sv 1).length (S.sc 0) (S.sc 1) (T.sc 0) (T.sc 1) w (g 0 (by omega)) (g 1 (by omega))
 unfold stL
 rw[e0,e1,f0,f1,hb.1,hb.2.1,hb.2.2,hh.1,hh.2,hn];exact key
end Go.Proofs.YtnfdfiholcelaaaGreatDoor
