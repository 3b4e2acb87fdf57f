
import Derived.Test.YtnfdfiholcelaaaGreatDoorJp33
import Derived.Test.YtnfdfiholcelaaaGreatDoorJp34
set_option maxRecDepth 100000
set_option maxHeartbeats 20000000
namespace Go.Proofs.YtnfdfiholcelaaaGreatDoor
open Go.RowKit Plain Tryz
variable {C:CR}{K k:Nat}{l:List Ft}{rs:List Rp}{ss:List Stp}{u:World}
theorem craftMay_f(C:CR)(w:World)(hl:CrL w C):Calls prog 41 #[.agg (crL C).toArray] w (Rt w (Vi (crE C))):=
 craftMay_any (C.a 0 0) (C.a 0 1) (C.a 0 2) (C.a 0 3) (C.a 0 4) (C.a 0 5) (C.a 0 6) (C.a 0 7) (C.a 0 8) (C.a 0 9) (C.a 0 10) (C.a 0 11) (C.a 0 14) (C.p 0) (C.q 0) (C.al 0) (C.zl 0) (C.cn 0) (C.cm 0) (C.a 1 0) (C.a 1 1) (C.a 1 2) (C.a 1 3) (C.a 1 4) (C.a 1 5) (C.a 1 6) (C.a 1 7) (C.a 1 8) (C.a 1 9) (C.a 1 10) (C.a 1 11) (C.a 1 14) (C.p 1) (C.q 1) (C.al 1) (C.zl 1) (C.cn 1) (C.cm 1) C.c0 C.c1 w (hl 0 (by omega)) (hl 1 (by omega))
theorem ffirst2(X:Nat)(x y:Int)(w:World)(h:w.heap[X]?=some (.cells [Vi x,Vi y].toArray 44 (0,0))):Calls prog 13 #[.slice (some (Ad X 0)) 2 2] w (Rt w (Vi (Zm [x,y]))):=
 have k:Blk 44 w X [Vi x,Vi y]:=h
 (first_two X 2 x y w (k.cell (j:=0) rfl).1 (k.cell (j:=1) rfl).1).mono (by rintro e w' ⟨rfl,rfl⟩;exact⟨rfl,Below.refl _ _⟩)
def fl0(C:CR)(l:List Ft)(ss:List Stp):Int:=Zm [crE C,if 20<l.length∨300<ss.length then 2 else 0]
def fl1(C:CR)(l:List Ft)(ss:List Stp):Nat→Int
 |0=>fl0 C l ss
 |k+1=>if fl1 C l ss k=0 then ftE C (ftAt l k) else fl1 C l ss k
def fl2(C:CR)(l:List Ft)(ss:List Stp):Nat→Int
 |0=>fl1 C l ss l.length
 |k+1=>if fl2 C l ss k=0 then stpE C (stAt ss k) else fl2 C l ss k
def fmE'(C:CR)(l:List Ft)(ss:List Stp):Int:=fl2 C l ss ss.length
theorem Nf(h:fl1 C l ss k≠0):∀m,k≤m→fl1 C l ss m=fl1 C l ss k
 |0,hm=>by
  obtain rfl:k=0:=by omega
  rfl
 |m+1,hm=>by
  by_cases e:k=m+1
  · rw[e]
  · rw[fl1,Nf h m (by omega),if_neg h]
theorem Ng(h:fl2 C l ss k≠0):∀m,k≤m→fl2 C l ss m=fl2 C l ss k
 |0,hm=>by
  obtain rfl:k=0:=by omega
  rfl
 |m+1,hm=>by
  by_cases e:k=m+1
  · rw[e]
  · rw[fl2,Ng h m (by omega),if_neg h]
theorem fl0_zero(h:fl0 C l ss=0):crE C=0∧l.length≤20∧ss.length≤300:=by
 unfold fl0 at h
 by_cases h1:crE C=0
 · rw[h1] at h
   by_cases h2:20<l.length∨300<ss.length
   · rw[if_pos h2] at h;simp[Zm] at h
   · omega
 · simp[Zm,h1] at h
theorem fl1_zero(h:fl1 C l ss k=0):∀m,m≤k→fl1 C l ss m=0:=fun m hm=>by
 by_cases e:fl1 C l ss m=0
 · exact e
 · rw[←h,Nf e k hm]
theorem fl2_zero(h:fl2 C l ss k=0):∀m,m≤k→fl2 C l ss m=0:=fun m hm=>by
 by_cases e:fl2 C l ss m=0
 · exact e
 · rw[←h,Ng e k hm]
structure FlOK (C:CR) (l:List Ft) (ss:List Stp):Prop where
 cr:crE C=0
 nl:l.length≤20
 ns:ss.length≤300
 ft:∀k,k<l.length→FtOK C (ftAt l k)
 st:∀k,k<ss.length→SA C (stAt ss k)
theorem fmE_mk(h:FlOK C l ss):fmE' C l ss=0:=by
 have h0:fl0 C l ss=0:=by unfold fl0;rw[h.cr,if_neg (by have:=h.nl;have:=h.ns;omega)];rfl
 have h1:∀k,k≤l.length→fl1 C l ss k=0:=fun k=>by
  induction k with
  |zero=>intro _;exact h0
  |succ k ih=>intro hk;rw[fl1,if_pos (ih (by omega))];unfold ftE;rw[if_pos (ftB_mk (h.ft k (by omega)))]
 have h2:∀k,k≤ss.length→fl2 C l ss k=0:=fun k=>by
  induction k with
  |zero=>intro _;exact h1 _ (Nat.le_refl _)
  |succ k ih=>intro hk;rw[fl2,if_pos (ih (by omega))];unfold stpE;rw[if_pos (stpU_mk (h.st k (by omega)))]
 exact h2 _ (Nat.le_refl _)
theorem flightMay_any(C:CR)(pf:Option Addr)(cf:Nat)(l:List Ft)(ps:Option Addr)(cs:Nat)(ss:List Stp)(hml:l.length≤9223372036854775807)(hms:ss.length≤9223372036854775807)(w:World)(hcr:CrL w C)(hF:Fts w pf l)(hS:Sts w ps ss):
 Calls prog 25 #[.agg (crL C).toArray,.agg #[.slice pf l.length cf,.slice ps ss.length cs]] w (Rt w (Vi (fmE' C l ss))):=by
 have Hj:=Za (fun u (h:Bw w u)=>craftMay_f C u (hcr.later h));have Hk:=Za (fun u (h:Bw w u)=>hF.later h);have Hl:=Za (fun u (h:Bw w u)=>hS.later h);have HK:=Za ((Blk.new w 29 (crL C)).later (Zb (w.alloc (.cells (crL C).toArray 29)) (.cells #[.slice pf l.length cf,.slice ps ss.length cs] 67)));have HF:Hid (Blk 67 ((w.alloc (.cells (crL C).toArray 29)).alloc (.cells #[.slice pf l.length cf,.slice ps ss.length cs] 67)) (w.heap.size+1) [.slice pf l.length cf,.slice ps ss.length cs]):=Za (by have h:=Blk.new (w.alloc (.cells (crL C).toArray 29)) 67 [.slice pf l.length cf,.slice ps ss.length cs];rw[World.size_alloc] at h;exact h);have Hc:=Za (Zc (Zb w (.cells (crL C).toArray 29)) (Zb (w.alloc (.cells (crL C).toArray 29)) (.cells #[.slice pf l.length cf,.slice ps ss.length cs] 67)));clear hcr hF hS
 go_enter func25,ntmps25
 go_upto_region 1 with fail;generalize (w.alloc (.cells (crL C).toArray 29)).alloc (.cells #[.slice pf l.length cf,.slice ps ss.length cs] 67)=v0 at *;generalize w.heap.size+1=QF at HF⊢;generalize hQK:w.heap.size=QK at HK⊢;clear hQK;have xf:=(HF.out.cell (j:=0) rfl).1;have xs:=(HF.out.cell (j:=1) rfl).1;have Hh:=Za HK.out.range;have hcm:=fun u (h:Bw v0 u)=>Hj.out u (Zc Hc.out h)
 by_cases h1:(20:Int)<(l.length:Int)
 · have hwh:=Ys 2;have HE:Hid (fl0 C l ss=Zm [crE C,2]):=Za (by unfold fl0;rw[if_pos (by omega)])
   have Hd:Hid (fl0 C l ss≠0∧fmE' C l ss=fl0 C l ss):=Za (by
    have hne:fl0 C l ss≠0:=fun e=>by have:=fl0_zero e;omega
    have h1:fl1 C l ss l.length=fl0 C l ss:=Nf (k:=0) hne l.length (by omega);have h2:fl2 C l ss ss.length=fl2 C l ss 0:=Ng (k:=0) (by show fl1 C l ss l.length≠0;rw[h1];exact hne) ss.length (by omega)
    exact⟨hne,h2.trans h1⟩)
   refine Cs [8,9,10,11,12,13,14,15,16,17,18,19,20,21,22,5] ?_;refine Cl (x:=.tmp 2) 0 8 [] (fun y w _ u hSw=>⟨Zg Hh.out hSw,rfl⟩) underlying29 Zt ?_;refine Cc 1 9 [0] (fun y w h _=>hcm _ h) ?_;refine Cp 2 10 [] ?_;refine Cq (fun _ h=>cell_later h xf) 3 11 [2] ?_;refine Cp 4 12 [3] ?_;refine Cp 5 13 [4] ?_;refine Cp 6 14 [5] ?_;refine Cz 7 15 [6] ?_ (hw:=fun y w hF=>Zl (congrArg some hF.1));refine Cz 8 16 [6] ?_ (hw:=fun y w hF=>Zl (congrArg some hF.1));refine Cz 9 17 [6] ?_ (hw:=fun y w hF=>Zl (congrArg some hF.1));refine Cz 10 18 [6] ?_ (hw:=fun y w hF=>Zl (congrArg some hF.1));refine Cp 11 19 [6,10] ?_;refine Cc 12 20 [11] (fun y w h _=>Z8 (hwh _)) ?_;refine Cbs (z:=[Vi (crE C),Vi 2]) (t:=44) (n:=2) 13 21 [1,12] ?_;refine Cg 14 22 13 21 (fun X w _ hX=>ffirst2 X (crE C) 2 w hX) ?_;refine Cp 15 5 [14] ?_;refine Ce (fun y u1 hB hf=>?_);have Ha:=Za hB;clear hB hf;go_simp;have hB:=Ha.out;clear Ha;generalize u1=v2 at hB⊢;rw[←HE.out];have HX:Hid (fmE' C l ss=fl0 C l ss):=Za Hd.out.2;have hne:=Hd.out.1;clear HE hwh Hd;generalize fl0 C l ss=x at *;generalize y 21=y21 at *;refine Ek ?_;have Hb:=Za (Zc Hc.out hB);replace HF:=Za (HF.out.later hB);clear hB xf xs;have xf:=(HF.out.cell (j:=0) rfl).1;have xs:=(HF.out.cell (j:=1) rfl).1
   go_upto_region 3 with fail;refine wp_loop_rounds 1 ?_;rw[rounds_succ]
   go_upto_region 7 with fail
   all_goals (refine wp_loop_rounds 1 ?_;rw[rounds_succ];go_wp2_with fail)
   all_goals (go_ret;exact⟨by rw[HX.out];rfl,Hb.out⟩)
 by_cases h2:(300:Int)<(ss.length:Int)
 · have hwh:=Ys 2;have HE:Hid (fl0 C l ss=Zm [crE C,2]):=Za (by unfold fl0;rw[if_pos (by omega)])
   have Hd:Hid (fl0 C l ss≠0∧fmE' C l ss=fl0 C l ss):=Za (by
    have hne:fl0 C l ss≠0:=fun e=>by have:=fl0_zero e;omega
    have h1:fl1 C l ss l.length=fl0 C l ss:=Nf (k:=0) hne l.length (by omega);have h2:fl2 C l ss ss.length=fl2 C l ss 0:=Ng (k:=0) (by show fl1 C l ss l.length≠0;rw[h1];exact hne) ss.length (by omega)
    exact⟨hne,h2.trans h1⟩)
   refine Cs [8,9,10,11,12,13,14,15,16,17,18,19,20,21,22,5] ?_;refine Cl (x:=.tmp 2) 0 8 [] (fun y w _ u hSw=>⟨Zg Hh.out hSw,rfl⟩) underlying29 Zt ?_;refine Cc 1 9 [0] (fun y w h _=>hcm _ h) ?_;refine Cp 2 10 [] ?_;refine Cq (fun _ h=>cell_later h xf) 3 11 [2] ?_;refine Cp 4 12 [3] ?_;refine Cp 5 13 [4] ?_;refine Cp 6 14 [5] ?_;refine Cp 7 15 [6] ?_ (hw:=fun y w hF=>Zf (congrArg some hF.1));refine Cq (fun _ h=>cell_later h xs) 8 16 [7,6] ?_ (hw:=fun y w hF=>Zf (congrArg some hF.2.1));refine Cp 9 17 [8,6] ?_ (hw:=fun y w hF=>Zf (congrArg some hF.2.1));refine Cp 10 18 [9,6] ?_ (hw:=fun y w hF=>Zf (congrArg some hF.2.1));refine Cp 11 19 [6,10] ?_;refine Cc 12 20 [11] (fun y w h _=>Z8 (hwh _)) ?_;refine Cbs (z:=[Vi (crE C),Vi 2]) (t:=44) (n:=2) 13 21 [1,12] ?_;refine Cg 14 22 13 21 (fun X w _ hX=>ffirst2 X (crE C) 2 w hX) ?_;refine Cp 15 5 [14] ?_;refine Ce (fun y u1 hB hf=>?_);have Ha:=Za hB;clear hB hf;go_simp;have hB:=Ha.out;clear Ha;generalize u1=v2 at hB⊢;rw[←HE.out];have HX:Hid (fmE' C l ss=fl0 C l ss):=Za Hd.out.2;have hne:=Hd.out.1;clear HE hwh Hd;generalize fl0 C l ss=x at *;generalize y 21=y21 at *;refine Ek ?_;have Hb:=Za (Zc Hc.out hB);replace HF:=Za (HF.out.later hB);clear hB xf xs;have xf:=(HF.out.cell (j:=0) rfl).1;have xs:=(HF.out.cell (j:=1) rfl).1
   go_upto_region 3 with fail;refine wp_loop_rounds 1 ?_;rw[rounds_succ]
   go_upto_region 7 with fail
   all_goals (refine wp_loop_rounds 1 ?_;rw[rounds_succ];go_wp2_with fail)
   all_goals (go_ret;exact⟨by rw[HX.out];rfl,Hb.out⟩)
 have hwh:=Xw 2;have HE:Hid (fl0 C l ss=Zm [crE C,0]):=Za (by unfold fl0;rw[if_neg (by omega)]);refine Cs [8,9,10,11,12,13,14,15,16,17,18,19,20,21,22,5] ?_;refine Cl (x:=.tmp 2) 0 8 [] (fun y w _ u hSw=>⟨Zg Hh.out hSw,rfl⟩) underlying29 Zt ?_;refine Cc 1 9 [0] (fun y w h _=>hcm _ h) ?_;refine Cp 2 10 [] ?_;refine Cq (fun _ h=>cell_later h xf) 3 11 [2] ?_;refine Cp 4 12 [3] ?_;refine Cp 5 13 [4] ?_;refine Cp 6 14 [5] ?_;refine Cp 7 15 [6] ?_ (hw:=fun y w hF=>Zf (congrArg some hF.1));refine Cq (fun _ h=>cell_later h xs) 8 16 [7,6] ?_ (hw:=fun y w hF=>Zf (congrArg some hF.2.1));refine Cp 9 17 [8,6] ?_ (hw:=fun y w hF=>Zf (congrArg some hF.2.1));refine Cp 10 18 [9,6] ?_ (hw:=fun y w hF=>Zf (congrArg some hF.2.1));refine Cp 11 19 [6,10] ?_;refine Cc 12 20 [11] (fun y w h _=>Z8 (hwh _)) ?_;refine Cbs (z:=[Vi (crE C),Vi 0]) (t:=44) (n:=2) 13 21 [1,12] ?_;refine Cg 14 22 13 21 (fun X w _ hX=>ffirst2 X (crE C) 0 w hX) ?_;refine Cp 15 5 [14] ?_;refine Ce (fun y u1 hB hf=>?_);have Ha:=Za hB;clear hB hf;go_simp;have hB:=Ha.out;clear Ha;generalize u1=v2 at hB⊢;rw[←HE.out];have Hi:Hid (fl0 C l ss=fl1 C l ss 0):=Za rfl;rw[Hi.out];clear HE hwh Hi h1 h2 hcm Hh xf xs;generalize y 21=y21 at *;refine Ek ?_;replace Hc:=Za (Zc Hc.out hB);replace HF:=Za (HF.out.later hB);replace HK:=Za (HK.out.later hB);clear hB
 go_upto_region 3 with fail
 go_loopw [5,6] (fun fe ix wr=>∃k:Nat,k≤l.length∧ix=Vi k∧fe=Vi (fl1 C l ss k)∧Blk 67 wr QF [.slice pf l.length cf,.slice ps ss.length cs]∧Blk 29 wr QK (crL C)∧Bw w wr) (fun _ ix _=>l.length-(intOf ix).toNat)
 case atStart=>exact⟨0,by omega,rfl,rfl,HF.out,HK.out,Hc.out⟩
 case round=>
  clear HF HK Hc;obtain⟨k,hk,rfl,rfl,hff,hkk,hbw⟩:=hrel;have xf:=(hff.cell (j:=0) rfl).1;have xs:=(hff.cell (j:=1) rfl).1
  have k0:(0:Int)≤(k:Int):=by omega
  by_cases hgo:k<l.length∧fl1 C l ss k=0
  · obtain⟨hlt,he⟩:=hgo
    have k1:(k:Int)<(l.length:Int):=by omega
    have HN:Hid (fl1 C l ss (k+1)=ftE C (ftAt l k)):=Za (by rw[fl1,if_pos he]);obtain⟨b,off,rfl,hr⟩:=(Hk.out wr hbw).at hlt;have hfm:=faultMay_any C (ftAt l k);rw[he];clear he
    go_upto_region 5 with fail;refine Cs [34,35,36,37,38,39,40,5] ?_;refine Cl (x:=.tmp 2) 0 34 [] (fun y w _ u hSw=>⟨Zg hkk.range hSw,rfl⟩) underlying29 Zt ?_;refine Cp 1 35 [] ?_;refine Cq (fun _ h=>cell_later h xf) 2 36 [1] ?_;refine Cp 3 37 [] ?_;refine Cp 4 38 [2,3] ?_;refine Cl (x:=.tmp 38) 5 39 [4] (fun y w hF u hSw=>⟨Zg hr hSw,hF.1⟩) underlying73 infoF5 ?_;refine Cc 6 40 [0,5] (fun y w h _=>hfm _) ?_;refine Cp 7 5 [6] ?_;refine Ce (fun y u1 hB hf=>?_);have Ha:=Za hB;clear hB hf;go_simp;have hB:=Ha.out;clear Ha;generalize u1=v2 at hB⊢;refine Ek ?_;have Hf:=Za (hff.later hB);have Hg:=Za (hkk.later hB);have Hb:=Za (Zc hbw hB);clear hff hkk hbw hB xf xs hr hfm;go_wp2_with fail;go_roundw
    case rel=>exact⟨k+1,by omega,by go_num,by rw[HN.out],Hf.out,Hg.out,Hb.out⟩
    case measure=>simp[intOf];omega
  · have Hm:Hid (fl1 C l ss k=fl2 C l ss 0):=Za (by
     show fl1 C l ss k=fl1 C l ss l.length
     by_cases e:fl1 C l ss k=0
     · obtain rfl:k=l.length:=by omega
       rfl
     · exact(Nf e l.length hk).symm)
    have Hf:=Za hff;have Hg:=Za hkk;have Hb:=Za hbw;have hne:k<l.length→¬fl1 C l ss k=0:=fun h e=>hgo ⟨h,e⟩;clear hff hkk hbw hgo;generalize fl1 C l ss k=e1 at*
    by_cases hlt:(k:Int)<(l.length:Int)
    all_goals (
     (try have hnz:=hne (by omega));clear hne
     go_upto_region 7 with fail;rw[Hm.out]
     go_loopw [5,7] (fun fe ix wr=>∃k:Nat,k≤ss.length∧ix=Vi k∧fe=Vi (fl2 C l ss k)∧Blk 67 wr QF [.slice pf l.length cf,.slice ps ss.length cs]∧Blk 29 wr QK (crL C)∧Bw w wr) (fun _ ix _=>ss.length-(intOf ix).toNat)
     case atStart=>exact⟨0,by omega,rfl,rfl,Hf.out,Hg.out,Hb.out⟩
     case round=>
      clear Hf Hg Hb;obtain⟨m,hm,rfl,rfl,hff,hkk,hbw⟩:=hrel;rename World=>wq;have xs:=(hff.cell (j:=1) rfl).1
      have m0:(0:Int)≤(m:Int):=by omega
      by_cases hgo:m<ss.length∧fl2 C l ss m=0
      · obtain⟨hl2,he⟩:=hgo
        have m1:(m:Int)<(ss.length:Int):=by omega
        have HN:Hid (fl2 C l ss (m+1)=stpE C (stAt ss m)):=Za (by rw[fl2,if_pos he]);have hc:=(fl0_zero (show fl0 C l ss=0 from fl1_zero (show fl1 C l ss l.length=0 from fl2_zero he 0 (by omega)) 0 (by omega))).1;have hfm:=stepMay_any C (stAt ss m) (fun i hi=>(Z9 hc hi).2);obtain⟨b,off,rfl,hr⟩:=(Hl.out wq hbw).at hl2;rw[he];clear he hc
        go_upto_region 9 with fail;refine Cs [52,53,54,55,56,57,58,5] ?_;refine Cl (x:=.tmp 2) 0 52 [] (fun y w _ u hSw=>⟨Zg hkk.range hSw,rfl⟩) underlying29 Zt ?_;refine Cp 1 53 [] ?_;refine Cq (fun _ h=>cell_later h xs) 2 54 [1] ?_;refine Cp 3 55 [] ?_;refine Cp 4 56 [2,3] ?_;refine Cl (x:=.tmp 56) 5 57 [4] (fun y w hF u hSw=>⟨Zg hr hSw,hF.1⟩) underlying78 Ud ?_;refine Cc 6 58 [0,5] (fun y w h _=>hfm _) ?_;refine Cp 7 5 [6] ?_;refine Ce (fun y u1 hB hf=>?_);have Ha:=Za hB;clear hB hf;go_simp;have hB:=Ha.out;clear Ha;generalize u1=v2 at hB⊢;refine Ek ?_;have Hf:=Za (hff.later hB);have Hg:=Za (hkk.later hB);have Hb:=Za (Zc hbw hB);clear hff hkk hbw hB xs hr hfm;go_wp2_with fail;go_roundw
        case rel=>exact⟨m+1,by omega,by go_num,by rw[HN.out],Hf.out,Hg.out,Hb.out⟩
        case measure=>simp[intOf];omega
      · have Hn:Hid (fmE' C l ss=fl2 C l ss m):=Za (by
         show fl2 C l ss ss.length=fl2 C l ss m
         by_cases e:fl2 C l ss m=0
         · obtain rfl:m=ss.length:=by omega
           rfl
         · exact Ng e ss.length hm)
        have Hb:=Za hbw;have hne:m<ss.length→¬fl2 C l ss m=0:=fun h e=>hgo ⟨h,e⟩;clear hkk hbw hgo;generalize fl2 C l ss m=e2 at*
        by_cases hl2:(m:Int)<(ss.length:Int)
        all_goals (
         (try have hnz2:=hne (by omega));clear hne;go_wp2_with fail;go_ret
         exact⟨by rw[Hn.out];rfl,Hb.out⟩))
theorem RpO.slice{s:Value}(h:RpO K u s rs):∃a c,s=.slice a rs.length c:=by
 rcases h.2 with⟨rfl,e⟩|⟨g,cap,cur,rfl,_⟩
 · exact⟨none,0,by rw[e]⟩
 · exact⟨_,cap,rfl⟩
def rpD:Rp:=⟨fun _=>0,fun _=>0,fun _=>0,0,fun _ _=>0⟩
def rpAt(rs:List Rp)(k:Nat):Rp:=rs.getD k rpD
theorem encP_get:∀(rs:List Rp) (j i:Nat),j<rs.length→i<15→(encP rs)[j*15+i]?=(rpL (rpAt rs j))[i]?
 |[],j,_,hj,_=>by simp at hj
 |r::t,0,i,_,hi=>by
  have e:encP (r::t)=rpL r++encP t:=by simp[encP]
  rw[e,Nat.zero_mul,Nat.zero_add,List.getElem?_append_left (by rw[Ue];exact hi)]
  rfl
 |r::t,j+1,i,hj,hi=>by
  have e:encP (r::t)=rpL r++encP t:=by simp[encP]
  rw[e,List.getElem?_append_right (by rw[Ue];omega),Ue,show(j+1)*15+i-15=j*15+i by omega,encP_get t j i (by simpa using hj) hi]
  rfl
theorem RpO.at{a:Option Addr}{n c:Nat}(h:RpO K u (.slice a n c) rs){j:Nat}(hj:j<rs.length):∃g,a=some (Ad g 0)∧u.rangeAt g (j*15) (rpL (rpAt rs j)):=by
 rcases h.2 with⟨_,e⟩|⟨g,cap,cur,e,_,hb,h1,h2,h3,h4⟩
 · omega
 · simp only[Value.slice.injEq] at e;refine⟨g,e.1,fun i v hv=>?_⟩
   have hi:i<15:=by
    have:=(List.getElem?_eq_some_iff.1 hv).1;rw[Ue] at this;exact this
   have hlt:j*15+i<rs.length*15:=by omega
   have hg:=encP_get rs j i hj hi;rw[←h4,List.getElem?_take_of_lt hlt,Array.getElem?_toList,hv] at hg;simp only[World.cell?,hb];simp only[Option.isSome_none,Bool.false_eq_true,if_false];exact hg
end Go.Proofs.YtnfdfiholcelaaaGreatDoor
