import Derived.Below
import Derived.Test.YtnfdfiholcelaaaGreatDoorJp30
set_option maxRecDepth 100000
set_option maxHeartbeats 20000000
namespace Go.Proofs.YtnfdfiholcelaaaGreatDoor
open Go.RowKit Tryz
end Go.Proofs.YtnfdfiholcelaaaGreatDoor
namespace Go.Proofs.YtnfdfiholcelaaaGreatDoor
open Go.RowKit Plain Tryz
theorem fst6(e:Nat→Int):fstN e 6=if e 0=0 then(if Zm [e 1,e 2]=0 then Zm [e 3,e 4,e 5] else Zm [e 1,e 2]) else e 0:=by
 simp only[fstN,Zm]
 by_cases h0:e 0=0<;>by_cases h1:e 1=0<;>by_cases h2:e 2=0<;>by_cases h3:e 3=0<;>by_cases h4:e 4=0<;>by_cases h5:e 5=0<;>simp[*]
theorem fm_wrap{l n lo hi m2 e3 e4:Int}(hm:e3=0→m2=2*n):Zm [e3,e4,fmE l n lo hi]=Zm [e3,e4,if l<m2∨0<lo∨hi<0 then 3 else 0]:=by
 by_cases h:e3=0
 · rw[hm h];rfl
 · simp[Zm,h]
theorem axisMay_any(a0 a1 a2 a3 a4 a5 a6 a7 a8 a9 a10 a11 a14:Int)(p q:Option Addr)(al zl:List Int)(cn cm:Nat)(hm:al.length≤9223372036854775807)(hn:zl.length≤9223372036854775807)(w:World)(ha:Lst w p al)(hz:Lst w q zl):
 Calls prog 86 #[.agg #[Vi a0,Vi a1,Vi a2,Vi a3,Vi a4,Vi a5,Vi a6,Vi a7,Vi a8,Vi a9,Vi a10,Vi a11,.slice p al.length cn,.slice q zl.length cm,Vi a14]] w (Rt w (Vi (fstN (eAx a0 a1 a2 a3 a4 a5 a6 a7 a8 a9 a10 a11 a14 al zl) 6))):=by
 have HA:=Za (Blk.new w 26 [Vi a0,Vi a1,Vi a2,Vi a3,Vi a4,Vi a5,Vi a6,Vi a7,Vi a8,Vi a9,Vi a10,Vi a11,.slice p al.length cn,.slice q zl.length cm,Vi a14]);have HB:=Za (Zb w (.cells #[Vi a0,Vi a1,Vi a2,Vi a3,Vi a4,Vi a5,Vi a6,Vi a7,Vi a8,Vi a9,Vi a10,Vi a11,.slice p al.length cn,.slice q zl.length cm,Vi a14] 26));have HF:Hid (fstN (eAx a0 a1 a2 a3 a4 a5 a6 a7 a8 a9 a10 a11 a14 al zl) 6=if rgE a4 a3=0 then(if Zm [Z7 a8 a9,arE a5 a6 a7 a10]=0 then Zm [grE a0 a1 a2 (a3+a7) ((a4-1)*a5) ((a4-1)*a6),ruE a0 a1 a11 a14 ((a4-1)*a5) al zl,fmE a8 a2 a0 a1] else Zm [Z7 a8 a9,arE a5 a6 a7 a10]) else rgE a4 a3):=Za (fst6 (eAx a0 a1 a2 a3 a4 a5 a6 a7 a8 a9 a10 a11 a14 al zl));have f1:=Zy a4 2 4;have f2:=Zy a3 0 1000;have HZ:=Za (@Ua a4 a3);have HR:Hid (rgE a4 a3=if betw a4 2 4&&betw a3 0 1000 then 0 else 1):=Za rfl;have g9:=fun u (h:Bw w u)=>holdRuleMay_any a0 a1 a11 a14 ((a4-1)*a5) p q cn cm al zl hm hn u (ha.later h) (hz.later h);generalize fstN (eAx a0 a1 a2 a3 a4 a5 a6 a7 a8 a9 a10 a11 a14 al zl) 6=res at *;generalize rgE a4 a3=e0 at *;generalize betw a4 2 4=x1 at *;generalize betw a3 0 1000=x2 at *;clear ha hz hm hn;have k0:=(HA.out.cell (j:=0) rfl).1;have k1:=(HA.out.cell (j:=1) rfl).1;have k2:=(HA.out.cell (j:=2) rfl).1;have k3:=(HA.out.cell (j:=3) rfl).1;have k4:=(HA.out.cell (j:=4) rfl).1;have k8:=(HA.out.cell (j:=8) rfl).1
 rcases(show(x1=false∨x1=true∧x2=false)∨(x1=true∧x2=true) by cases x1<;>cases x2<;>simp) with hx|⟨rfl,rfl⟩
 · rcases hx with rfl|⟨rfl,rfl⟩
   all_goals
    have HE:Hid (res=1):=Za (by rw[HF.out,HR.out];rfl);clear HF HR HZ g9
    go_enter func86,ntmps86
    go_wp2_with (first
     |((first|go_at_call_of 38 (Vi a4)|go_at_call_of 38 (Value.int .i64 a4));refine Sm (f1 _) ?_)
     |((first|go_at_call_of 38 (Vi a3)|go_at_call_of 38 (Value.int .i64 a3));refine Sm (f2 _) ?_)
     |(go_at_call_of 14 (Value.bool true);refine Sm (Ys _ _) ?_)
     |(go_at_call_of 14 (Value.bool false);refine Sm (Xw _ _) ?_))
    go_ret;exact⟨by rw[HE.out];rfl,Zb _ _⟩
 have he0:e0=0:=HR.out;obtain⟨h4,h3⟩:=HZ.out he0;have HF:Hid (res=(if Zm [Z7 a8 a9,arE a5 a6 a7 a10]=0 then Zm [grE a0 a1 a2 (a3+a7) ((a4-1)*a5) ((a4-1)*a6),ruE a0 a1 a11 a14 ((a4-1)*a5) al zl,fmE a8 a2 a0 a1] else Zm [Z7 a8 a9,arE a5 a6 a7 a10])):=Za (by rw[HF.out,if_pos he0]);clear he0 HR HZ;have g1:=Zdz a0 a1 a2 a3 a4 a5 a6 a7 a8 a9 a10 a11 a14 p q al.length zl.length cn cm;have g2:=ruleMay_any a8 a9;have g3:=Mg a0 a1 a2 a3 a4 a5 a6 a7 a8 a9 a10 a11 a14 p q al.length zl.length cn cm;have g4:=refActRule_any a5 a6 a7 a10;have Hd:=Za (fun h:arE a5 a6 a7 a10=0=>Yf (Wx h))
 have Hf:∀x y:Int,Zm [x,y]=0→y=0:=fun x y h=>by
  simp only[Zm] at h
  by_cases hx:x=0<;>by_cases hy:y=0<;>simp_all
 generalize Z7 a8 a9=e1 at *;generalize arE a5 a6 a7 a10=e2 at *;obtain⟨v,HV⟩:∃v,Hid (Zm [e1,e2]=v):=⟨_,Za rfl⟩
 have g5:∀(X:Nat) (u:World),Blk 44 u X [Vi e1,Vi e2]→Calls prog 13 #[.slice (some (Ad X 0)) 2 2] u (Re u (Vi v)):=fun X u h=>by rw[←HV.out];exact first_two X 2 e1 e2 u (h.cell rfl).1 (h.cell rfl).1
 have HF:Hid (res=(if v=0 then Zm [grE a0 a1 a2 (a3+a7) ((a4-1)*a5) ((a4-1)*a6),ruE a0 a1 a11 a14 ((a4-1)*a5) al zl,fmE a8 a2 a0 a1] else v)):=Za (by rw[HF.out,HV.out]);have Hd:Hid (v=0→_):=Za (fun h:v=0=>Hd.out (Hf e1 e2 (HV.out.trans h)));clear Hf HV
 go_enter func86,ntmps86
 go_upto_region 4 with(first
  |((first|go_at_call_of 38 (Vi a4)|go_at_call_of 38 (Value.int .i64 a4));refine Sm (f1 _) ?_)
  |((first|go_at_call_of 38 (Vi a3)|go_at_call_of 38 (Value.int .i64 a3));refine Sm (f2 _) ?_)
  |(go_at_call_of 14 (Value.bool true);refine Sm (Ys _ _) ?_)
  |(go_at_call_of 14 (Value.bool false);refine Sm (Xw _ _) ?_))
 clear f1 f2 k0 k1 k2 k3 k4 k8;generalize w.alloc (.cells #[Vi a0,Vi a1,Vi a2,Vi a3,Vi a4,Vi a5,Vi a6,Vi a7,Vi a8,Vi a9,Vi a10,Vi a11,.slice p al.length cn,.slice q zl.length cm,Vi a14] 26)=w0 at *;refine Cs [19,20,21,22,23,24,25,26,4] ?_;refine Cl (x:=.tmp 1) 0 19 [] (fun y w _ u hSw=>⟨Zg HA.out.range hSw,rfl⟩) underlying26 Zs ?_;refine Cc 1 20 [0] (fun y w h _=>g1 _) ?_;refine Cc 2 21 [1] (fun y w h _=>g2 _) ?_;refine Cl (x:=.tmp 1) 3 22 [] (fun y w _ u hSw=>⟨Zg HA.out.range hSw,rfl⟩) underlying26 Zs ?_;refine Cc 4 23 [3] (fun y w h _=>g3 _) ?_;refine Cc 5 24 [4] (fun y w h _=>g4 _) ?_;refine Cbs (z:=[Vi e1,Vi e2]) (t:=44) (n:=2) 6 25 [2,5] ?_;refine Cg 7 26 6 25 (fun X w _ hX=>Z8 (g5 X w hX)) ?_;refine Cp 8 4 [7] ?_;refine Ce (fun y u1 hB hf=>?_);have Hb:=Za hB;clear hB hf;have Hc:=Za (Zc HB.out Hb.out);have Ha:=Za (HA.out.later Hb.out);clear Hb HA HB;clear g1 g2 g3 g4 g5;rename World=>w1
 rcases(show ¬v=0∨v=0 by omega) with hv|hv
 · have hw:(v != 0)=true:=by simp[hv]
   go_wp2_with fail;go_ret;exact⟨by rw[HF.out,if_neg hv];rfl,Hc.out⟩
 subst hv;have z2:=Hd.out rfl;have h5:=z2.1;have h7:0≤a7∧a7≤1000:=⟨z2.2.2.1.1,by omega⟩;have h6:1≤a6∧a6≤1000:=⟨z2.2.1.1,by omega⟩;have HF:Hid (res=Zm [grE a0 a1 a2 (a3+a7) ((a4-1)*a5) ((a4-1)*a6),ruE a0 a1 a11 a14 ((a4-1)*a5) al zl,fmE a8 a2 a0 a1]):=HF;have g6:=Zdt a0 a1 a2 a3 a4 a5 a6 a7 a8 a9 a10 a11 a14 p q al.length zl.length cn cm h4 h5 h3 h7 h6;have g7:=guardMay_any a0 a1 a2 (a3+a7) ((a4-1)*a5) ((a4-1)*a6);have g8:=Zea a0 a1 a2 a3 a4 a5 a6 a7 a8 a9 a10 a11 a14 p q al.length zl.length cn cm h4 h5;have HM:=Za (fun h=>(by have:=@grE_noise a0 a1 a2 (a3+a7) ((a4-1)*a5) ((a4-1)*a6) h;exact Xo (by omega) (by omega):IntKind.i64.wrap (2*a2)=2*a2));obtain⟨m2,v2⟩:∃m2,IntKind.i64.wrap (2*a2)=m2:=⟨_,rfl⟩;rw[v2] at HM;have HF:Hid (res=Zm [grE a0 a1 a2 (a3+a7) ((a4-1)*a5) ((a4-1)*a6),ruE a0 a1 a11 a14 ((a4-1)*a5) al zl,if a8<m2∨0<a0∨a1<0 then 3 else 0]):=Za (by rw[HF.out];exact fm_wrap HM.out);clear HM z2 Hd h3 h4 h5 h6 h7;generalize grE a0 a1 a2 (a3+a7) ((a4-1)*a5) ((a4-1)*a6)=e3 at *;generalize ruE a0 a1 a11 a14 ((a4-1)*a5) al zl=e4 at *;obtain⟨x1,d1⟩:∃x,decide (a8<m2)=x:=⟨_,rfl⟩;obtain⟨x2,d2⟩:∃x,decide (0<a0)=x:=⟨_,rfl⟩;obtain⟨x3,d3⟩:∃x,decide (a1<0)=x:=⟨_,rfl⟩;have HL:Hid (res=Zm [e3,e4,if x1||x2||x3 then 3 else 0]):=Za (by rw[HF.out,←d1,←d2,←d3];simp[or_assoc]);clear HF
 have HD:x1=true∨(x1=false∧x2=true)∨(x1=false∧x2=false∧x3=true)∨(x1=false∧x2=false∧x3=false):=by cases x1<;>cases x2<;>cases x3<;>simp
 go_upto_region 7 with fail;have k0:=(Ha.out.cell (j:=0) rfl).1;have k1:=(Ha.out.cell (j:=1) rfl).1;have k2:=(Ha.out.cell (j:=2) rfl).1;have k8:=(Ha.out.cell (j:=8) rfl).1
 rcases HD with rfl|⟨rfl,rfl⟩|⟨rfl,rfl,rfl⟩|⟨rfl,rfl,rfl⟩
 · refine Cs [30,31,32,33,34,35,36,37,38,39,40,41,42,43,44,45,46,47,48,49,50,51,52,53,54,2] ?_;refine Cl (x:=.tmp 1) 0 30 [] (fun y w _ u hSw=>⟨Zg Ha.out.range hSw,rfl⟩) underlying26 Zs ?_;refine Cc 1 31 [0] (fun y w h _=>g6 _) ?_;refine Cc 2 32 [1] (fun y w h _=>g7 _) ?_;refine Cl (x:=.tmp 1) 3 33 [] (fun y w _ u hSw=>⟨Zg Ha.out.range hSw,rfl⟩) underlying26 Zs ?_;refine Cc 4 34 [3] (fun y w h _=>g8 _) ?_;refine Cc 5 35 [4] (fun y w h _=>g9 _ (Zc Hc.out h)) ?_;refine Cp 6 36 [] ?_;refine Cq (fun _ h=>cell_later h k8) 7 37 [6] ?_;refine Cp 8 38 [] ?_;refine Cq (fun _ h=>cell_later h k2) 9 39 [8] ?_;refine Cp 10 40 [9] ?_;refine Cp 11 41 [7,10] ?_;refine Cp 12 42 [11] ?_;refine Cz 13 43 [12] ?_ (hw:=fun y w hF=>Zl (congrArg some hF.1));refine Cz 14 44 [12] ?_ (hw:=fun y w hF=>Zl (congrArg some hF.1));refine Cz 15 45 [12] ?_ (hw:=fun y w hF=>Zl (congrArg some hF.1));refine Cp 16 46 [12,15] ?_;refine Cp 17 47 [16] ?_;refine Cz 18 48 [17] ?_ (hw:=fun y w hF=>Zl (congrArg some hF.1));refine Cz 19 49 [17] ?_ (hw:=fun y w hF=>Zl (congrArg some hF.1));refine Cz 20 50 [17] ?_ (hw:=fun y w hF=>Zl (congrArg some hF.1));refine Cp 21 51 [17,20] ?_;refine Cc 22 52 [21] (fun y w h _=>Z8 (Ys _ _)) ?_;refine Cbs (z:=[Vi e3,Vi e4,Vi 3]) (t:=44) (n:=3) 23 53 [2,5,22] ?_;refine Cg 24 54 23 53 (fun X w _ hX=>Z8 (Uy X 3 e3 e4 3 w ((show Blk 44 w X [Vi e3,Vi e4,Vi 3] from hX).cell rfl).1 ((show Blk 44 w X [Vi e3,Vi e4,Vi 3] from hX).cell rfl).1 ((show Blk 44 w X [Vi e3,Vi e4,Vi 3] from hX).cell rfl).1)) ?_;refine Cp 25 2 [24] ?_;refine Ce (fun y u1 hB hf=>?_);have Hb:=Za hB;clear hB hf;go_wp2_with fail;go_ret;exact⟨by rw[HL.out];rfl,Zc Hc.out Hb.out⟩
 · refine Cs [30,31,32,33,34,35,36,37,38,39,40,41,42,43,44,45,46,47,48,49,50,51,52,53,54,2] ?_;refine Cl (x:=.tmp 1) 0 30 [] (fun y w _ u hSw=>⟨Zg Ha.out.range hSw,rfl⟩) underlying26 Zs ?_;refine Cc 1 31 [0] (fun y w h _=>g6 _) ?_;refine Cc 2 32 [1] (fun y w h _=>g7 _) ?_;refine Cl (x:=.tmp 1) 3 33 [] (fun y w _ u hSw=>⟨Zg Ha.out.range hSw,rfl⟩) underlying26 Zs ?_;refine Cc 4 34 [3] (fun y w h _=>g8 _) ?_;refine Cc 5 35 [4] (fun y w h _=>g9 _ (Zc Hc.out h)) ?_;refine Cp 6 36 [] ?_;refine Cq (fun _ h=>cell_later h k8) 7 37 [6] ?_;refine Cp 8 38 [] ?_;refine Cq (fun _ h=>cell_later h k2) 9 39 [8] ?_;refine Cp 10 40 [9] ?_;refine Cp 11 41 [7,10] ?_;refine Cp 12 42 [11] ?_;refine Cp 13 43 [12] ?_ (hw:=fun y w hF=>Zf (congrArg some hF.1));refine Cq (fun _ h=>cell_later h k0) 14 44 [13,12] ?_ (hw:=fun y w hF=>Zf (congrArg some hF.2.1));refine Cp 15 45 [14,12] ?_ (hw:=fun y w hF=>Zf (congrArg some hF.2.1));refine Cp 16 46 [12,15] ?_;refine Cp 17 47 [16] ?_;refine Cz 18 48 [17] ?_ (hw:=fun y w hF=>Zl (congrArg some hF.1));refine Cz 19 49 [17] ?_ (hw:=fun y w hF=>Zl (congrArg some hF.1));refine Cz 20 50 [17] ?_ (hw:=fun y w hF=>Zl (congrArg some hF.1));refine Cp 21 51 [17,20] ?_;refine Cc 22 52 [21] (fun y w h _=>Z8 (Ys _ _)) ?_;refine Cbs (z:=[Vi e3,Vi e4,Vi 3]) (t:=44) (n:=3) 23 53 [2,5,22] ?_;refine Cg 24 54 23 53 (fun X w _ hX=>Z8 (Uy X 3 e3 e4 3 w ((show Blk 44 w X [Vi e3,Vi e4,Vi 3] from hX).cell rfl).1 ((show Blk 44 w X [Vi e3,Vi e4,Vi 3] from hX).cell rfl).1 ((show Blk 44 w X [Vi e3,Vi e4,Vi 3] from hX).cell rfl).1)) ?_;refine Cp 25 2 [24] ?_;refine Ce (fun y u1 hB hf=>?_);have Hb:=Za hB;clear hB hf;go_wp2_with fail;go_ret;exact⟨by rw[HL.out];rfl,Zc Hc.out Hb.out⟩
 · refine Cs [30,31,32,33,34,35,36,37,38,39,40,41,42,43,44,45,46,47,48,49,50,51,52,53,54,2] ?_;refine Cl (x:=.tmp 1) 0 30 [] (fun y w _ u hSw=>⟨Zg Ha.out.range hSw,rfl⟩) underlying26 Zs ?_;refine Cc 1 31 [0] (fun y w h _=>g6 _) ?_;refine Cc 2 32 [1] (fun y w h _=>g7 _) ?_;refine Cl (x:=.tmp 1) 3 33 [] (fun y w _ u hSw=>⟨Zg Ha.out.range hSw,rfl⟩) underlying26 Zs ?_;refine Cc 4 34 [3] (fun y w h _=>g8 _) ?_;refine Cc 5 35 [4] (fun y w h _=>g9 _ (Zc Hc.out h)) ?_;refine Cp 6 36 [] ?_;refine Cq (fun _ h=>cell_later h k8) 7 37 [6] ?_;refine Cp 8 38 [] ?_;refine Cq (fun _ h=>cell_later h k2) 9 39 [8] ?_;refine Cp 10 40 [9] ?_;refine Cp 11 41 [7,10] ?_;refine Cp 12 42 [11] ?_;refine Cp 13 43 [12] ?_ (hw:=fun y w hF=>Zf (congrArg some hF.1));refine Cq (fun _ h=>cell_later h k0) 14 44 [13,12] ?_ (hw:=fun y w hF=>Zf (congrArg some hF.2.1));refine Cp 15 45 [14,12] ?_ (hw:=fun y w hF=>Zf (congrArg some hF.2.1));refine Cp 16 46 [12,15] ?_;refine Cp 17 47 [16] ?_;refine Cp 18 48 [17] ?_ (hw:=fun y w hF=>Zf (congrArg some hF.1));refine Cq (fun _ h=>cell_later h k1) 19 49 [18,17] ?_ (hw:=fun y w hF=>Zf (congrArg some hF.2.1));refine Cp 20 50 [19,17] ?_ (hw:=fun y w hF=>Zf (congrArg some hF.2.1));refine Cp 21 51 [17,20] ?_;refine Cc 22 52 [21] (fun y w h _=>Z8 (Ys _ _)) ?_;refine Cbs (z:=[Vi e3,Vi e4,Vi 3]) (t:=44) (n:=3) 23 53 [2,5,22] ?_;refine Cg 24 54 23 53 (fun X w _ hX=>Z8 (Uy X 3 e3 e4 3 w ((show Blk 44 w X [Vi e3,Vi e4,Vi 3] from hX).cell rfl).1 ((show Blk 44 w X [Vi e3,Vi e4,Vi 3] from hX).cell rfl).1 ((show Blk 44 w X [Vi e3,Vi e4,Vi 3] from hX).cell rfl).1)) ?_;refine Cp 25 2 [24] ?_;refine Ce (fun y u1 hB hf=>?_);have Hb:=Za hB;clear hB hf;go_wp2_with fail;go_ret;exact⟨by rw[HL.out];rfl,Zc Hc.out Hb.out⟩
 · refine Cs [30,31,32,33,34,35,36,37,38,39,40,41,42,43,44,45,46,47,48,49,50,51,52,53,54,2] ?_;refine Cl (x:=.tmp 1) 0 30 [] (fun y w _ u hSw=>⟨Zg Ha.out.range hSw,rfl⟩) underlying26 Zs ?_;refine Cc 1 31 [0] (fun y w h _=>g6 _) ?_;refine Cc 2 32 [1] (fun y w h _=>g7 _) ?_;refine Cl (x:=.tmp 1) 3 33 [] (fun y w _ u hSw=>⟨Zg Ha.out.range hSw,rfl⟩) underlying26 Zs ?_;refine Cc 4 34 [3] (fun y w h _=>g8 _) ?_;refine Cc 5 35 [4] (fun y w h _=>g9 _ (Zc Hc.out h)) ?_;refine Cp 6 36 [] ?_;refine Cq (fun _ h=>cell_later h k8) 7 37 [6] ?_;refine Cp 8 38 [] ?_;refine Cq (fun _ h=>cell_later h k2) 9 39 [8] ?_;refine Cp 10 40 [9] ?_;refine Cp 11 41 [7,10] ?_;refine Cp 12 42 [11] ?_;refine Cp 13 43 [12] ?_ (hw:=fun y w hF=>Zf (congrArg some hF.1));refine Cq (fun _ h=>cell_later h k0) 14 44 [13,12] ?_ (hw:=fun y w hF=>Zf (congrArg some hF.2.1));refine Cp 15 45 [14,12] ?_ (hw:=fun y w hF=>Zf (congrArg some hF.2.1));refine Cp 16 46 [12,15] ?_;refine Cp 17 47 [16] ?_;refine Cp 18 48 [17] ?_ (hw:=fun y w hF=>Zf (congrArg some hF.1));refine Cq (fun _ h=>cell_later h k1) 19 49 [18,17] ?_ (hw:=fun y w hF=>Zf (congrArg some hF.2.1));refine Cp 20 50 [19,17] ?_ (hw:=fun y w hF=>Zf (congrArg some hF.2.1));refine Cp 21 51 [17,20] ?_;refine Cc 22 52 [21] (fun y w h _=>Z8 (Xw _ _)) ?_;refine Cbs (z:=[Vi e3,Vi e4,Vi 0]) (t:=44) (n:=3) 23 53 [2,5,22] ?_;refine Cg 24 54 23 53 (fun X w _ hX=>Z8 (Uy X 3 e3 e4 0 w ((show Blk 44 w X [Vi e3,Vi e4,Vi 0] from hX).cell rfl).1 ((show Blk 44 w X [Vi e3,Vi e4,Vi 0] from hX).cell rfl).1 ((show Blk 44 w X [Vi e3,Vi e4,Vi 0] from hX).cell rfl).1)) ?_;refine Cp 25 2 [24] ?_;refine Ce (fun y u1 hB hf=>?_);have Hb:=Za hB;clear hB hf;go_wp2_with fail;go_ret;exact⟨by rw[HL.out];rfl,Zc Hc.out Hb.out⟩
theorem fstN_add(e:Nat→Int)(n:Nat):∀m,fstN e (n+m)=if fstN e n=0 then fstN (fun k=>e (n+k)) m else fstN e n
 |0=>by
  by_cases h:fstN e n=0
  · rw[if_pos h];exact h
  · rw[if_neg h];rfl
 |m+1=>by
  have ih:=fstN_add e n m
  show(if fstN e (n+m)=0 then e (n+m) else fstN e (n+m))=_
  rw[ih]
  by_cases h:fstN e n=0
  · rw[if_pos h,if_pos h];rfl
  · rw[if_neg h,if_neg h,if_neg h]
theorem fstN_congr{e f:Nat→Int}:∀{n:Nat},(∀k,k<n→e k=f k)→fstN e n=fstN f n
 |0,_=>rfl
 |n+1,h=>by
  show(if fstN e n=0 then e n else fstN e n)=(if fstN f n=0 then f n else fstN f n)
  rw[fstN_congr (fun k hk=>h k (by omega)),h n (by omega)]
theorem first_13(e f g:Nat→Int)(z:Int)(h1:∀k,k<6→g k=e k)(h2:∀k,k<6→g (6+k)=f k)(h3:g 12=z):fstN g 13=Zm [Zm [Zm [0,fstN e 6],fstN f 6],z]:=by
 have a1:fstN g 6=fstN e 6:=fstN_congr h1
 have a2:fstN g 12=if fstN e 6=0 then fstN f 6 else fstN e 6:=by
  rw[show(12:Nat)=6+6 from rfl,fstN_add g 6 6,a1,fstN_congr (f:=f) h2]
 show(if fstN g 12=0 then g 12 else fstN g 12)=_
 rw[a2,h3];generalize fstN e 6=x;generalize fstN f 6=y;simp only[Zm]
 by_cases hx:x=0<;>by_cases hy:y=0<;>by_cases hz:z=0<;>simp[*]
theorem first_b(T:TypeId)(x y:Int)(u:World):Calls prog 13 #[.slice (some (Ad u.heap.size 0)) 2 2] (u.alloc (.cells #[Vi x,Vi y] T)) fun r w'=>r=.returned (Vi (Zm [x,y]))∧Bw u w':=
 (first_new2 T x y u).mono fun _ _ h=>⟨h.1,by rw[h.2];exact Zb _ _⟩
theorem craftMay_any(a0 a1 a2 a3 a4 a5 a6 a7 a8 a9 a10 a11 a14:Int)(p q:Option Addr)(al zl:List Int)(cn cm:Nat)(b0 b1 b2 b3 b4 b5 b6 b7 b8 b9 b10 b11 b14:Int)(r s:Option Addr)(bl yl:List Int)(dn dm:Nat)(c0 c1:Int)(w:World)(hla:al.length≤9223372036854775807∧zl.length≤9223372036854775807∧al.length≤cn∧Lst w p al∧Lst w q zl)(hlb:bl.length≤9223372036854775807∧yl.length≤9223372036854775807∧bl.length≤dn∧Lst w r bl∧Lst w s yl):
 Calls prog 41 #[.agg (Qae a0 a1 a2 a3 a4 a5 a6 a7 a8 a9 a10 a11 a14 b0 b1 b2 b3 b4 b5 b6 b7 b8 b9 b10 b11 b14 c0 c1 p q r s al zl bl yl cn cm dn dm)] w (Rt w (Vi (fstN (eCr a0 a1 a2 a3 a4 a5 a6 a7 a8 a9 a10 a11 a14 al zl b0 b1 b2 b3 b4 b5 b6 b7 b8 b9 b10 b11 b14 bl yl c0 c1) 13))):=by
 have HF:Hid (fstN (eCr a0 a1 a2 a3 a4 a5 a6 a7 a8 a9 a10 a11 a14 al zl b0 b1 b2 b3 b4 b5 b6 b7 b8 b9 b10 b11 b14 bl yl c0 c1) 13=Zm [Zm [Zm [0,fstN (eAx a0 a1 a2 a3 a4 a5 a6 a7 a8 a9 a10 a11 a14 al zl) 6],fstN (eAx b0 b1 b2 b3 b4 b5 b6 b7 b8 b9 b10 b11 b14 bl yl) 6],Z7 c0 c1]):=Za (first_13 _ _ _ _ (fun k hk=>by unfold eCr;rw[if_pos hk]) (fun k hk=>by unfold eCr;rw[if_neg (by omega),if_pos (by omega)];congr 1;omega) rfl);have ga:=fun u h1 h2=>axisMay_any a0 a1 a2 a3 a4 a5 a6 a7 a8 a9 a10 a11 a14 p q al zl cn cm hla.1 hla.2.1 u h1 h2;have gb:=fun u h1 h2=>axisMay_any b0 b1 b2 b3 b4 b5 b6 b7 b8 b9 b10 b11 b14 r s bl yl dn dm hlb.1 hlb.2.1 u h1 h2;have Hd:=Za hla.2.2.2;have Hf:=Za hlb.2.2.2;have Hb:Hid (CrH (w.alloc (.cells (Qae a0 a1 a2 a3 a4 a5 a6 a7 a8 a9 a10 a11 a14 b0 b1 b2 b3 b4 b5 b6 b7 b8 b9 b10 b11 b14 c0 c1 p q r s al zl bl yl cn cm dn dm) 29)) w.heap.size [Vi a0,Vi a1,Vi a2,Vi a3,Vi a4,Vi a5,Vi a6,Vi a7,Vi a8,Vi a9,Vi a10,Vi a11,.slice p al.length cn,.slice q zl.length cm,Vi a14,Vi b0,Vi b1,Vi b2,Vi b3,Vi b4,Vi b5,Vi b6,Vi b7,Vi b8,Vi b9,Vi b10,Vi b11,.slice r bl.length dn,.slice s yl.length dm,Vi b14,Vi c0,Vi c1]):=Za (World.alloc_heap_new w _);have Ha:Hid (Bw w (w.alloc (.cells (Qae a0 a1 a2 a3 a4 a5 a6 a7 a8 a9 a10 a11 a14 b0 b1 b2 b3 b4 b5 b6 b7 b8 b9 b10 b11 b14 c0 c1 p q r s al zl bl yl cn cm dn dm) 29))):=Za (Zb _ _);have g16:=ruleMay_any c0 c1;generalize fstN (eCr a0 a1 a2 a3 a4 a5 a6 a7 a8 a9 a10 a11 a14 al zl b0 b1 b2 b3 b4 b5 b6 b7 b8 b9 b10 b11 b14 bl yl c0 c1) 13=res at *;generalize fstN (eAx a0 a1 a2 a3 a4 a5 a6 a7 a8 a9 a10 a11 a14 al zl) 6=xa at *;generalize fstN (eAx b0 b1 b2 b3 b4 b5 b6 b7 b8 b9 b10 b11 b14 bl yl) 6=xb at *;generalize Z7 c0 c1=xc at *;clear hla hlb
 go_enter func41,ntmps41
 go_wp2_with fail;obtain⟨w0,hw0⟩:∃w0,w.alloc (.cells (Qae a0 a1 a2 a3 a4 a5 a6 a7 a8 a9 a10 a11 a14 b0 b1 b2 b3 b4 b5 b6 b7 b8 b9 b10 b11 b14 c0 c1 p q r s al zl bl yl cn cm dn dm) 29)=w0:=⟨_,rfl⟩;rw[hw0] at Hb Ha⊢;clear hw0;refine wp_loop_rounds 3 ?_;rw[rounds_succ]
 go_wp2_with (first
  |(refine Lm 26 (.tmp 12) rfl w.heap.size 0 [Vi a0,Vi a1,Vi a2,Vi a3,Vi a4,Vi a5,Vi a6,Vi a7,Vi a8,Vi a9,Vi a10,Vi a11,.slice p al.length cn,.slice q zl.length cm,Vi a14] (Nx (n:=15) Hb.out.range 0) underlying26 Zs ?_)
  |(go_at_call 86;refine Sb (ga _ (Hd.out.1.later Ha.out) (Hd.out.2.later Ha.out)) fun w1 hb1=>?_;have Hi:=Za (Hb.out.later hb1);have Hj:=Za (Zc Ha.out hb1);clear hb1)
  |(go_at_call 13;refine Sb (first_b _ _ _ _) fun w2 hq=>?_;have Hg:=Za (Hi.out.later hq);have Hc:=Za (Zc Hj.out hq);clear hq))
 rw[rounds_succ]
 go_wp2_with (first
  |(refine Lm 26 (.tmp 12) rfl w.heap.size 15 [Vi b0,Vi b1,Vi b2,Vi b3,Vi b4,Vi b5,Vi b6,Vi b7,Vi b8,Vi b9,Vi b10,Vi b11,.slice r bl.length dn,.slice s yl.length dm,Vi b14] (Nx (n:=15) Hg.out.range 15) underlying26 Zs ?_)
  |(go_at_call 86;refine Sb (gb _ (Hf.out.1.later Hc.out) (Hf.out.2.later Hc.out)) fun w3 hb3=>?_;have Hk:=Za (Hg.out.later hb3);have Hl:=Za (Zc Hc.out hb3);clear hb3)
  |(go_at_call 13;refine Sb (first_b _ _ _ _) fun w4 hq=>?_;have Hh:=Za (Hk.out.later hq);have Hm:=Za (Zc Hl.out hq);clear hq))
 have k30:w4.cell? (Ad w.heap.size 30)=some (Vi c0):=by have:=Hh.out.range 30 _ rfl;rwa[Nat.zero_add] at this
 have k31:w4.cell? (Ad w.heap.size 31)=some (Vi c1):=by have:=Hh.out.range 31 _ rfl;rwa[Nat.zero_add] at this
 rw[rounds_succ]
 go_wp2_with (first
  |(go_at_call 87;refine Sb (g16 _) fun w5 hb5=>?_;have Hn:=Za (Zc Hm.out hb5);clear hb5)
  |(go_at_call 13;refine Sb (first_b _ _ _ _) fun w6 hq=>?_;have Ho:=Za (Zc Hn.out hq);clear hq))
 go_ret;exact⟨by rw[HF.out];rfl,Ho.out⟩
end Go.Proofs.YtnfdfiholcelaaaGreatDoor
