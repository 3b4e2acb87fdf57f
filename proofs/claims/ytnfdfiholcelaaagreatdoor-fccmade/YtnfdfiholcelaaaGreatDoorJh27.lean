import Derived.Below
import Derived.Test.YtnfdfiholcelaaaGreatDoorJh00
import Derived.Test.YtnfdfiholcelaaaGreatDoorJh02
import Derived.Test.YtnfdfiholcelaaaGreatDoorJh10
import Derived.Test.YtnfdfiholcelaaaGreatDoorJh14
import Derived.Test.YtnfdfiholcelaaaGreatDoorJh16
import Derived.Test.YtnfdfiholcelaaaGreatDoorJh21
import Derived.Test.YtnfdfiholcelaaaGreatDoorJh26
set_option maxRecDepth 100000
set_option maxHeartbeats 20000000
namespace Go.Proofs.YtnfdfiholcelaaaGreatDoor
open Go.RowKit Plain Tryz
theorem cr_axi(C:CR){i:Nat}(hi:i<2):((crL C).drop (i*15)).take 15=axL C i:=by
 rcases(show i=0∨i=1 by omega) with rfl|rfl<;>rfl
end Go.Proofs.YtnfdfiholcelaaaGreatDoor
namespace Go.Proofs.YtnfdfiholcelaaaGreatDoor
open Go.RowKit Tryz
theorem wnT{ops:Array Oper}{o:Oper}{j t:Nat}{b:Bool}{tm:Array Value}(ht:tm[t]?=some (.bool b))(hg:o.guard=some (j,b):=by rfl)(hj:(ops[j]?).bind (·.dst)=some t:=by rfl):Region.wanted o (yielded ops tm)=true:=by
 unfold Region.wanted yielded
 simp[hg,hj,ht]
theorem wnF{ops:Array Oper}{o:Oper}{j t:Nat}{b:Bool}{tm:Array Value}(ht:tm[t]?=some (.bool (!b)))(hg:o.guard=some (j,b):=by rfl)(hj:(ops[j]?).bind (·.dst)=some t:=by rfl):Region.wanted o (yielded ops tm)=false:=by
 unfold Region.wanted yielded
 simp[hg,hj,ht]
theorem Ck{P:Program}{md:Region.Mode}{ops:Array Oper}{Q:Exit→Act→World→Prop}{w0:World}{D:List Nat}{F:(Nat→Value)→Act}{S':World→Prop}{listed0:Array Bool}{fuel:Nat}{r:List Ent}{v:Value}{G:World→Prop}(g:∀w,Below w0.heap.size w0 w→G w)(i d:Nat)(cl:List Nat){o:Oper}(k:Cb P md ops Q w0 D F S' listed0 fuel (⟨i,d,false,fun y _=>y d=v⟩::r))
 (ho:ops[i]?=some o:=by rfl) (hc:Zeo md ops D listed0 cl i d false r=true:=by kernel_rfl)
 (hw:∀y w,depF cl y w r→Region.wanted o (yielded ops (F y).tmps)=true:=by intro y w hF;rfl)
 (hy:∀y w,G w→depF cl y w r→(execOp (F y).eval o).run P w=.ok (.value v) w:=by intro y w hG hF;simp only[depF,List.contains_cons,List.contains_nil,Nat.reduceBEq,Bool.or_false,Bool.or_true,if_true,if_false,Bool.false_eq_true] at hF;go_simp;(try first|with_reducible rfl|rfl)):
 Cb P md ops Q w0 D F S' listed0 fuel r:=
 Cv i d cl _ (fun y w hS hF=>⟨v,w,hy y w (g w hS) hF,Below.refl _ _,if_pos rfl⟩) k (fun _ _ _ _ h ha _=>(ha _ (List.mem_cons_self ..)).trans h) ho hc hw
end Go.Proofs.YtnfdfiholcelaaaGreatDoor
namespace Go.Proofs.YtnfdfiholcelaaaGreatDoor
open Go.RowKit Plain Tryz
theorem fst6(e:Nat→Int):fstN e 6=if e 0=0 then(if Zap [e 1,e 2]=0 then Zap [e 3,e 4,e 5] else Zap [e 1,e 2]) else e 0:=by
 simp only[fstN,Zap]
 by_cases h0:e 0=0<;>by_cases h1:e 1=0<;>by_cases h2:e 2=0<;>by_cases h3:e 3=0<;>by_cases h4:e 4=0<;>by_cases h5:e 5=0<;>simp[*]
theorem fm_wrap{l n lo hi m2 e3 e4:Int}(hm:e3=0→m2=2*n):Zap [e3,e4,fmE l n lo hi]=Zap [e3,e4,if l<m2∨0<lo∨hi<0 then 3 else 0]:=by
 by_cases h:e3=0
 · rw[hm h];rfl
 · simp[Zap,h]
theorem axisMay_any(a0 a1 a2 a3 a4 a5 a6 a7 a8 a9 a10 a11 a14:Int)(p q:Option Addr)(al zl:List Int)(cn cm:Nat)(hm:al.length≤9223372036854775807)(hn:zl.length≤9223372036854775807)(w:World)(ha:Lst w p al)(hz:Lst w q zl):
 Calls prog 86 #[.agg #[Vi a0,Vi a1,Vi a2,Vi a3,Vi a4,Vi a5,Vi a6,Vi a7,Vi a8,Vi a9,Vi a10,Vi a11,.slice p al.length cn,.slice q zl.length cm,Vi a14]] w fun e w'=>e=.returned (Vi (fstN (eAx a0 a1 a2 a3 a4 a5 a6 a7 a8 a9 a10 a11 a14 al zl) 6))∧Below w.heap.size w w':=by
 have HA:=Zab (Blk.new w 26 [Vi a0,Vi a1,Vi a2,Vi a3,Vi a4,Vi a5,Vi a6,Vi a7,Vi a8,Vi a9,Vi a10,Vi a11,.slice p al.length cn,.slice q zl.length cm,Vi a14]);have HB:=Zab (Zaa w (.cells #[Vi a0,Vi a1,Vi a2,Vi a3,Vi a4,Vi a5,Vi a6,Vi a7,Vi a8,Vi a9,Vi a10,Vi a11,.slice p al.length cn,.slice q zl.length cm,Vi a14] 26));have HF:Hid (fstN (eAx a0 a1 a2 a3 a4 a5 a6 a7 a8 a9 a10 a11 a14 al zl) 6=if rgE a4 a3=0 then(if Zap [Zdh a8 a9,arE a5 a6 a7 a10]=0 then Zap [grE a0 a1 a2 (a3+a7) ((a4-1)*a5) ((a4-1)*a6),ruE a0 a1 a11 a14 ((a4-1)*a5) al zl,fmE a8 a2 a0 a1] else Zap [Zdh a8 a9,arE a5 a6 a7 a10]) else rgE a4 a3):=Zab (fst6 (eAx a0 a1 a2 a3 a4 a5 a6 a7 a8 a9 a10 a11 a14 al zl));have f1:=Zaj a4 2 4;have f2:=Zaj a3 0 1000;have HZ:=Zab (@Zdz a4 a3);have HR:Hid (rgE a4 a3=if betw a4 2 4&&betw a3 0 1000 then 0 else 1):=Zab rfl;have g9:=fun u (h:Below w.heap.size w u)=>Zgw a0 a1 a11 a14 ((a4-1)*a5) p q cn cm al zl hm hn u (ha.later h) (hz.later h);generalize fstN (eAx a0 a1 a2 a3 a4 a5 a6 a7 a8 a9 a10 a11 a14 al zl) 6=res at *;generalize rgE a4 a3=e0 at *;generalize betw a4 2 4=x1 at *;generalize betw a3 0 1000=x2 at *;clear ha hz hm hn;have k0:=(HA.out.cell (j:=0) rfl).1;have k1:=(HA.out.cell (j:=1) rfl).1;have k2:=(HA.out.cell (j:=2) rfl).1;have k3:=(HA.out.cell (j:=3) rfl).1;have k4:=(HA.out.cell (j:=4) rfl).1;have k8:=(HA.out.cell (j:=8) rfl).1
 rcases(show(x1=false∨x1=true∧x2=false)∨(x1=true∧x2=true) by cases x1<;>cases x2<;>simp) with hx|⟨rfl,rfl⟩
 · rcases hx with rfl|⟨rfl,rfl⟩
   all_goals
    have HE:Hid (res=1):=Zab (by rw[HF.out,HR.out];rfl);clear HF HR HZ g9
    go_enter func86,ntmps86
    go_wp2_with (first
     |((first|go_at_call_of 38 (Vi a4)|go_at_call_of 38 (Value.int .i64 a4));refine Sm (f1 _) ?_)
     |((first|go_at_call_of 38 (Vi a3)|go_at_call_of 38 (Value.int .i64 a3));refine Sm (f2 _) ?_)
     |(go_at_call_of 14 (Value.bool true);refine Sm (Zbo _ _) ?_)
     |(go_at_call_of 14 (Value.bool false);refine Sm (Zbv _ _) ?_))
    go_ret;exact⟨by rw[HE.out];rfl,Zaa _ _⟩
 have he0:e0=0:=HR.out;obtain⟨h4,h3⟩:=HZ.out he0;have HF:Hid (res=(if Zap [Zdh a8 a9,arE a5 a6 a7 a10]=0 then Zap [grE a0 a1 a2 (a3+a7) ((a4-1)*a5) ((a4-1)*a6),ruE a0 a1 a11 a14 ((a4-1)*a5) al zl,fmE a8 a2 a0 a1] else Zap [Zdh a8 a9,arE a5 a6 a7 a10])):=Zab (by rw[HF.out,if_pos he0]);clear he0 HR HZ;have g1:=Zdx a0 a1 a2 a3 a4 a5 a6 a7 a8 a9 a10 a11 a14 p q al.length zl.length cn cm;have g2:=ruleMay_any a8 a9;have g3:=Zbq a0 a1 a2 a3 a4 a5 a6 a7 a8 a9 a10 a11 a14 p q al.length zl.length cn cm;have g4:=Zhu a5 a6 a7 a10;have HA2:=Zab (fun h:arE a5 a6 a7 a10=0=>Zat (Zes h))
 have HFZ:∀x y:Int,Zap [x,y]=0→y=0:=fun x y h=>by
  simp only[Zap] at h
  by_cases hx:x=0<;>by_cases hy:y=0<;>simp_all
 generalize Zdh a8 a9=e1 at *;generalize arE a5 a6 a7 a10=e2 at *;obtain⟨v,HV⟩:∃v,Hid (Zap [e1,e2]=v):=⟨_,Zab rfl⟩
 have g5:∀(X:Nat) (u:World),Blk 44 u X [Vi e1,Vi e2]→Calls prog 13 #[.slice (some (Ad X 0)) 2 2] u fun r w'=>r=.returned (Vi v)∧w'=u:=fun X u h=>by rw[←HV.out];exact first_two X 2 e1 e2 u (h.cell rfl).1 (h.cell rfl).1
 have HF:Hid (res=(if v=0 then Zap [grE a0 a1 a2 (a3+a7) ((a4-1)*a5) ((a4-1)*a6),ruE a0 a1 a11 a14 ((a4-1)*a5) al zl,fmE a8 a2 a0 a1] else v)):=Zab (by rw[HF.out,HV.out]);have HA2:Hid (v=0→_):=Zab (fun h:v=0=>HA2.out (HFZ e1 e2 (HV.out.trans h)));clear HFZ HV
 go_enter func86,ntmps86
 go_upto_region 4 with(first
  |((first|go_at_call_of 38 (Vi a4)|go_at_call_of 38 (Value.int .i64 a4));refine Sm (f1 _) ?_)
  |((first|go_at_call_of 38 (Vi a3)|go_at_call_of 38 (Value.int .i64 a3));refine Sm (f2 _) ?_)
  |(go_at_call_of 14 (Value.bool true);refine Sm (Zbo _ _) ?_)
  |(go_at_call_of 14 (Value.bool false);refine Sm (Zbv _ _) ?_))
 clear f1 f2 k0 k1 k2 k3 k4 k8;generalize w.alloc (.cells #[Vi a0,Vi a1,Vi a2,Vi a3,Vi a4,Vi a5,Vi a6,Vi a7,Vi a8,Vi a9,Vi a10,Vi a11,.slice p al.length cn,.slice q zl.length cm,Vi a14] 26)=w0 at *;refine Cs [19,20,21,22,23,24,25,26,4] ?_;refine Cl (x:=.tmp 1) 0 19 [] (fun y w _ u hSw=>⟨Zae HA.out.range hSw,rfl⟩) underlying26 Zav ?_;refine Cc 1 20 [0] (fun y w h _=>g1 _) ?_;refine Cc 2 21 [1] (fun y w h _=>g2 _) ?_;refine Cl (x:=.tmp 1) 3 22 [] (fun y w _ u hSw=>⟨Zae HA.out.range hSw,rfl⟩) underlying26 Zav ?_;refine Cc 4 23 [3] (fun y w h _=>g3 _) ?_;refine Cc 5 24 [4] (fun y w h _=>g4 _) ?_;refine Cbs (z:=[Vi e1,Vi e2]) (t:=44) (n:=2) 6 25 [2,5] ?_;refine Cg 7 26 6 25 (fun X w _ hX=>Zif (g5 X w hX)) ?_;refine Cp 8 4 [7] ?_;refine Ce (fun y u1 hB hf=>?_);have HS1:=Zab hB;clear hB hf;have HB1:=Zab (Zac HB.out HS1.out);have HA1:=Zab (HA.out.later HS1.out);clear HS1 HA HB;clear g1 g2 g3 g4 g5;rename World=>w1
 rcases(show ¬v=0∨v=0 by omega) with hv|hv
 · have hw:(v != 0)=true:=by simp[hv]
   go_wp2_with fail;go_ret;exact⟨by rw[HF.out,if_neg hv];rfl,HB1.out⟩
 subst hv;have z2:=HA2.out rfl;have h5:=z2.1;have h7:0≤a7∧a7≤1000:=⟨z2.2.2.1.1,by omega⟩;have h6:1≤a6∧a6≤1000:=⟨z2.2.1.1,by omega⟩;have HF:Hid (res=Zap [grE a0 a1 a2 (a3+a7) ((a4-1)*a5) ((a4-1)*a6),ruE a0 a1 a11 a14 ((a4-1)*a5) al zl,fmE a8 a2 a0 a1]):=HF;have g6:=Zdv a0 a1 a2 a3 a4 a5 a6 a7 a8 a9 a10 a11 a14 p q al.length zl.length cn cm h4 h5 h3 h7 h6;have g7:=guardMay_any a0 a1 a2 (a3+a7) ((a4-1)*a5) ((a4-1)*a6);have g8:=Zbu a0 a1 a2 a3 a4 a5 a6 a7 a8 a9 a10 a11 a14 p q al.length zl.length cn cm h4 h5;have HM:=Zab (fun h=>(by have:=@grE_noise a0 a1 a2 (a3+a7) ((a4-1)*a5) ((a4-1)*a6) h;exact Zio (by omega) (by omega):IntKind.i64.wrap (2*a2)=2*a2));obtain⟨m2,v2⟩:∃m2,IntKind.i64.wrap (2*a2)=m2:=⟨_,rfl⟩;rw[v2] at HM;have HF:Hid (res=Zap [grE a0 a1 a2 (a3+a7) ((a4-1)*a5) ((a4-1)*a6),ruE a0 a1 a11 a14 ((a4-1)*a5) al zl,if a8<m2∨0<a0∨a1<0 then 3 else 0]):=Zab (by rw[HF.out];exact fm_wrap HM.out);clear HM z2 HA2 h3 h4 h5 h6 h7;generalize grE a0 a1 a2 (a3+a7) ((a4-1)*a5) ((a4-1)*a6)=e3 at *;generalize ruE a0 a1 a11 a14 ((a4-1)*a5) al zl=e4 at *;obtain⟨x1,d1⟩:∃x,decide (a8<m2)=x:=⟨_,rfl⟩;obtain⟨x2,d2⟩:∃x,decide (0<a0)=x:=⟨_,rfl⟩;obtain⟨x3,d3⟩:∃x,decide (a1<0)=x:=⟨_,rfl⟩;have HL:Hid (res=Zap [e3,e4,if x1||x2||x3 then 3 else 0]):=Zab (by rw[HF.out,←d1,←d2,←d3];simp[or_assoc]);clear HF
 have HD:x1=true∨(x1=false∧x2=true)∨(x1=false∧x2=false∧x3=true)∨(x1=false∧x2=false∧x3=false):=by cases x1<;>cases x2<;>cases x3<;>simp
 go_upto_region 7 with fail;have k0:=(HA1.out.cell (j:=0) rfl).1;have k1:=(HA1.out.cell (j:=1) rfl).1;have k2:=(HA1.out.cell (j:=2) rfl).1;have k8:=(HA1.out.cell (j:=8) rfl).1
 rcases HD with rfl|⟨rfl,rfl⟩|⟨rfl,rfl,rfl⟩|⟨rfl,rfl,rfl⟩
 · refine Cs [30,31,32,33,34,35,36,37,38,39,40,41,42,43,44,45,46,47,48,49,50,51,52,53,54,2] ?_;refine Cl (x:=.tmp 1) 0 30 [] (fun y w _ u hSw=>⟨Zae HA1.out.range hSw,rfl⟩) underlying26 Zav ?_;refine Cc 1 31 [0] (fun y w h _=>g6 _) ?_;refine Cc 2 32 [1] (fun y w h _=>g7 _) ?_;refine Cl (x:=.tmp 1) 3 33 [] (fun y w _ u hSw=>⟨Zae HA1.out.range hSw,rfl⟩) underlying26 Zav ?_;refine Cc 4 34 [3] (fun y w h _=>g8 _) ?_;refine Cc 5 35 [4] (fun y w h _=>g9 _ (Zac HB1.out h)) ?_;refine Cp 6 36 [] ?_;refine Cq (fun _ h=>cell_later h k8) 7 37 [6] ?_;refine Cp 8 38 [] ?_;refine Cq (fun _ h=>cell_later h k2) 9 39 [8] ?_;refine Cp 10 40 [9] ?_;refine Cp 11 41 [7,10] ?_;refine Cp 12 42 [11] ?_;refine Cz 13 43 [12] ?_ (hw:=fun y w hF=>wnF (congrArg some hF.1));refine Cz 14 44 [12] ?_ (hw:=fun y w hF=>wnF (congrArg some hF.1));refine Cz 15 45 [12] ?_ (hw:=fun y w hF=>wnF (congrArg some hF.1));refine Cp 16 46 [12,15] ?_;refine Cp 17 47 [16] ?_;refine Cz 18 48 [17] ?_ (hw:=fun y w hF=>wnF (congrArg some hF.1));refine Cz 19 49 [17] ?_ (hw:=fun y w hF=>wnF (congrArg some hF.1));refine Cz 20 50 [17] ?_ (hw:=fun y w hF=>wnF (congrArg some hF.1));refine Cp 21 51 [17,20] ?_;refine Cc 22 52 [21] (fun y w h _=>Zif (Zbo _ _)) ?_;refine Cbs (z:=[Vi e3,Vi e4,Vi 3]) (t:=44) (n:=3) 23 53 [2,5,22] ?_;refine Cg 24 54 23 53 (fun X w _ hX=>Zif (Zem X 3 e3 e4 3 w ((show Blk 44 w X [Vi e3,Vi e4,Vi 3] from hX).cell rfl).1 ((show Blk 44 w X [Vi e3,Vi e4,Vi 3] from hX).cell rfl).1 ((show Blk 44 w X [Vi e3,Vi e4,Vi 3] from hX).cell rfl).1)) ?_;refine Cp 25 2 [24] ?_;refine Ce (fun y u1 hB hf=>?_);have HS1:=Zab hB;clear hB hf;go_wp2_with fail;go_ret;exact⟨by rw[HL.out];rfl,Zac HB1.out HS1.out⟩
 · refine Cs [30,31,32,33,34,35,36,37,38,39,40,41,42,43,44,45,46,47,48,49,50,51,52,53,54,2] ?_;refine Cl (x:=.tmp 1) 0 30 [] (fun y w _ u hSw=>⟨Zae HA1.out.range hSw,rfl⟩) underlying26 Zav ?_;refine Cc 1 31 [0] (fun y w h _=>g6 _) ?_;refine Cc 2 32 [1] (fun y w h _=>g7 _) ?_;refine Cl (x:=.tmp 1) 3 33 [] (fun y w _ u hSw=>⟨Zae HA1.out.range hSw,rfl⟩) underlying26 Zav ?_;refine Cc 4 34 [3] (fun y w h _=>g8 _) ?_;refine Cc 5 35 [4] (fun y w h _=>g9 _ (Zac HB1.out h)) ?_;refine Cp 6 36 [] ?_;refine Cq (fun _ h=>cell_later h k8) 7 37 [6] ?_;refine Cp 8 38 [] ?_;refine Cq (fun _ h=>cell_later h k2) 9 39 [8] ?_;refine Cp 10 40 [9] ?_;refine Cp 11 41 [7,10] ?_;refine Cp 12 42 [11] ?_;refine Cp 13 43 [12] ?_ (hw:=fun y w hF=>wnT (congrArg some hF.1));refine Cq (fun _ h=>cell_later h k0) 14 44 [13,12] ?_ (hw:=fun y w hF=>wnT (congrArg some hF.2.1));refine Cp 15 45 [14,12] ?_ (hw:=fun y w hF=>wnT (congrArg some hF.2.1));refine Cp 16 46 [12,15] ?_;refine Cp 17 47 [16] ?_;refine Cz 18 48 [17] ?_ (hw:=fun y w hF=>wnF (congrArg some hF.1));refine Cz 19 49 [17] ?_ (hw:=fun y w hF=>wnF (congrArg some hF.1));refine Cz 20 50 [17] ?_ (hw:=fun y w hF=>wnF (congrArg some hF.1));refine Cp 21 51 [17,20] ?_;refine Cc 22 52 [21] (fun y w h _=>Zif (Zbo _ _)) ?_;refine Cbs (z:=[Vi e3,Vi e4,Vi 3]) (t:=44) (n:=3) 23 53 [2,5,22] ?_;refine Cg 24 54 23 53 (fun X w _ hX=>Zif (Zem X 3 e3 e4 3 w ((show Blk 44 w X [Vi e3,Vi e4,Vi 3] from hX).cell rfl).1 ((show Blk 44 w X [Vi e3,Vi e4,Vi 3] from hX).cell rfl).1 ((show Blk 44 w X [Vi e3,Vi e4,Vi 3] from hX).cell rfl).1)) ?_;refine Cp 25 2 [24] ?_;refine Ce (fun y u1 hB hf=>?_);have HS1:=Zab hB;clear hB hf;go_wp2_with fail;go_ret;exact⟨by rw[HL.out];rfl,Zac HB1.out HS1.out⟩
 · refine Cs [30,31,32,33,34,35,36,37,38,39,40,41,42,43,44,45,46,47,48,49,50,51,52,53,54,2] ?_;refine Cl (x:=.tmp 1) 0 30 [] (fun y w _ u hSw=>⟨Zae HA1.out.range hSw,rfl⟩) underlying26 Zav ?_;refine Cc 1 31 [0] (fun y w h _=>g6 _) ?_;refine Cc 2 32 [1] (fun y w h _=>g7 _) ?_;refine Cl (x:=.tmp 1) 3 33 [] (fun y w _ u hSw=>⟨Zae HA1.out.range hSw,rfl⟩) underlying26 Zav ?_;refine Cc 4 34 [3] (fun y w h _=>g8 _) ?_;refine Cc 5 35 [4] (fun y w h _=>g9 _ (Zac HB1.out h)) ?_;refine Cp 6 36 [] ?_;refine Cq (fun _ h=>cell_later h k8) 7 37 [6] ?_;refine Cp 8 38 [] ?_;refine Cq (fun _ h=>cell_later h k2) 9 39 [8] ?_;refine Cp 10 40 [9] ?_;refine Cp 11 41 [7,10] ?_;refine Cp 12 42 [11] ?_;refine Cp 13 43 [12] ?_ (hw:=fun y w hF=>wnT (congrArg some hF.1));refine Cq (fun _ h=>cell_later h k0) 14 44 [13,12] ?_ (hw:=fun y w hF=>wnT (congrArg some hF.2.1));refine Cp 15 45 [14,12] ?_ (hw:=fun y w hF=>wnT (congrArg some hF.2.1));refine Cp 16 46 [12,15] ?_;refine Cp 17 47 [16] ?_;refine Cp 18 48 [17] ?_ (hw:=fun y w hF=>wnT (congrArg some hF.1));refine Cq (fun _ h=>cell_later h k1) 19 49 [18,17] ?_ (hw:=fun y w hF=>wnT (congrArg some hF.2.1));refine Cp 20 50 [19,17] ?_ (hw:=fun y w hF=>wnT (congrArg some hF.2.1));refine Cp 21 51 [17,20] ?_;refine Cc 22 52 [21] (fun y w h _=>Zif (Zbo _ _)) ?_;refine Cbs (z:=[Vi e3,Vi e4,Vi 3]) (t:=44) (n:=3) 23 53 [2,5,22] ?_;refine Cg 24 54 23 53 (fun X w _ hX=>Zif (Zem X 3 e3 e4 3 w ((show Blk 44 w X [Vi e3,Vi e4,Vi 3] from hX).cell rfl).1 ((show Blk 44 w X [Vi e3,Vi e4,Vi 3] from hX).cell rfl).1 ((show Blk 44 w X [Vi e3,Vi e4,Vi 3] from hX).cell rfl).1)) ?_;refine Cp 25 2 [24] ?_;refine Ce (fun y u1 hB hf=>?_);have HS1:=Zab hB;clear hB hf;go_wp2_with fail;go_ret;exact⟨by rw[HL.out];rfl,Zac HB1.out HS1.out⟩
 · refine Cs [30,31,32,33,34,35,36,37,38,39,40,41,42,43,44,45,46,47,48,49,50,51,52,53,54,2] ?_;refine Cl (x:=.tmp 1) 0 30 [] (fun y w _ u hSw=>⟨Zae HA1.out.range hSw,rfl⟩) underlying26 Zav ?_;refine Cc 1 31 [0] (fun y w h _=>g6 _) ?_;refine Cc 2 32 [1] (fun y w h _=>g7 _) ?_;refine Cl (x:=.tmp 1) 3 33 [] (fun y w _ u hSw=>⟨Zae HA1.out.range hSw,rfl⟩) underlying26 Zav ?_;refine Cc 4 34 [3] (fun y w h _=>g8 _) ?_;refine Cc 5 35 [4] (fun y w h _=>g9 _ (Zac HB1.out h)) ?_;refine Cp 6 36 [] ?_;refine Cq (fun _ h=>cell_later h k8) 7 37 [6] ?_;refine Cp 8 38 [] ?_;refine Cq (fun _ h=>cell_later h k2) 9 39 [8] ?_;refine Cp 10 40 [9] ?_;refine Cp 11 41 [7,10] ?_;refine Cp 12 42 [11] ?_;refine Cp 13 43 [12] ?_ (hw:=fun y w hF=>wnT (congrArg some hF.1));refine Cq (fun _ h=>cell_later h k0) 14 44 [13,12] ?_ (hw:=fun y w hF=>wnT (congrArg some hF.2.1));refine Cp 15 45 [14,12] ?_ (hw:=fun y w hF=>wnT (congrArg some hF.2.1));refine Cp 16 46 [12,15] ?_;refine Cp 17 47 [16] ?_;refine Cp 18 48 [17] ?_ (hw:=fun y w hF=>wnT (congrArg some hF.1));refine Cq (fun _ h=>cell_later h k1) 19 49 [18,17] ?_ (hw:=fun y w hF=>wnT (congrArg some hF.2.1));refine Cp 20 50 [19,17] ?_ (hw:=fun y w hF=>wnT (congrArg some hF.2.1));refine Cp 21 51 [17,20] ?_;refine Cc 22 52 [21] (fun y w h _=>Zif (Zbv _ _)) ?_;refine Cbs (z:=[Vi e3,Vi e4,Vi 0]) (t:=44) (n:=3) 23 53 [2,5,22] ?_;refine Cg 24 54 23 53 (fun X w _ hX=>Zif (Zem X 3 e3 e4 0 w ((show Blk 44 w X [Vi e3,Vi e4,Vi 0] from hX).cell rfl).1 ((show Blk 44 w X [Vi e3,Vi e4,Vi 0] from hX).cell rfl).1 ((show Blk 44 w X [Vi e3,Vi e4,Vi 0] from hX).cell rfl).1)) ?_;refine Cp 25 2 [24] ?_;refine Ce (fun y u1 hB hf=>?_);have HS1:=Zab hB;clear hB hf;go_wp2_with fail;go_ret;exact⟨by rw[HL.out];rfl,Zac HB1.out HS1.out⟩
theorem fstN_add(e:Nat→Int)(n:Nat):∀m,fstN e (n+m)=if fstN e n=0 then fstN (fun k=>e (n+k)) m else fstN e n
 |0=>by
  by_cases h:fstN e n=0
  · rw[if_pos h];exact h
  · rw[if_neg h];rfl
 |m+1=>by
  have ih:=fstN_add e n m
  show(if fstN e (n+m)=0 then e (n+m) else fstN e (n+m))=_
  rw[ih]
  by_cases h:fstN e n=0
  · rw[if_pos h,if_pos h];rfl
  · rw[if_neg h,if_neg h,if_neg h]
theorem fstN_congr{e f:Nat→Int}:∀{n:Nat},(∀k,k<n→e k=f k)→fstN e n=fstN f n
 |0,_=>rfl
 |n+1,h=>by
  show(if fstN e n=0 then e n else fstN e n)=(if fstN f n=0 then f n else fstN f n)
  rw[fstN_congr (fun k hk=>h k (by omega)),h n (by omega)]
theorem first_13(e f g:Nat→Int)(z:Int)(h1:∀k,k<6→g k=e k)(h2:∀k,k<6→g (6+k)=f k)(h3:g 12=z):fstN g 13=Zap [Zap [Zap [0,fstN e 6],fstN f 6],z]:=by
 have a1:fstN g 6=fstN e 6:=fstN_congr h1
 have a2:fstN g 12=if fstN e 6=0 then fstN f 6 else fstN e 6:=by
  rw[show(12:Nat)=6+6 from rfl,fstN_add g 6 6,a1,fstN_congr (f:=f) h2]
 show(if fstN g 12=0 then g 12 else fstN g 12)=_
 rw[a2,h3];generalize fstN e 6=x;generalize fstN f 6=y;simp only[Zap]
 by_cases hx:x=0<;>by_cases hy:y=0<;>by_cases hz:z=0<;>simp[*]
theorem first_b(T:TypeId)(x y:Int)(u:World):Calls prog 13 #[.slice (some (Ad u.heap.size 0)) 2 2] (u.alloc (.cells #[Vi x,Vi y] T)) fun r w'=>r=.returned (Vi (Zap [x,y]))∧Below u.heap.size u w':=
 (Zcm T x y u).mono fun _ _ h=>⟨h.1,by rw[h.2];exact Zaa _ _⟩
theorem craftMay_any(a0 a1 a2 a3 a4 a5 a6 a7 a8 a9 a10 a11 a14:Int)(p q:Option Addr)(al zl:List Int)(cn cm:Nat)(b0 b1 b2 b3 b4 b5 b6 b7 b8 b9 b10 b11 b14:Int)(r s:Option Addr)(bl yl:List Int)(dn dm:Nat)(c0 c1:Int)(w:World)
 (hla:al.length≤9223372036854775807∧zl.length≤9223372036854775807∧al.length≤cn∧Lst w p al∧Lst w q zl) (hlb:bl.length≤9223372036854775807∧yl.length≤9223372036854775807∧bl.length≤dn∧Lst w r bl∧Lst w s yl):
 Calls prog 41 #[.agg #[Vi a0,Vi a1,Vi a2,Vi a3,Vi a4,Vi a5,Vi a6,Vi a7,Vi a8,Vi a9,Vi a10,Vi a11,.slice p al.length cn,.slice q zl.length cm,Vi a14,Vi b0,Vi b1,Vi b2,Vi b3,Vi b4,Vi b5,Vi b6,Vi b7,Vi b8,Vi b9,Vi b10,Vi b11,.slice r bl.length dn,.slice s yl.length dm,Vi b14,Vi c0,Vi c1]] w fun e w'=>e=.returned (Vi (fstN (eCr a0 a1 a2 a3 a4 a5 a6 a7 a8 a9 a10 a11 a14 al zl b0 b1 b2 b3 b4 b5 b6 b7 b8 b9 b10 b11 b14 bl yl c0 c1) 13))∧Below w.heap.size w w':=by
 have HF:Hid (fstN (eCr a0 a1 a2 a3 a4 a5 a6 a7 a8 a9 a10 a11 a14 al zl b0 b1 b2 b3 b4 b5 b6 b7 b8 b9 b10 b11 b14 bl yl c0 c1) 13=Zap [Zap [Zap [0,fstN (eAx a0 a1 a2 a3 a4 a5 a6 a7 a8 a9 a10 a11 a14 al zl) 6],fstN (eAx b0 b1 b2 b3 b4 b5 b6 b7 b8 b9 b10 b11 b14 bl yl) 6],Zdh c0 c1]):=Zab (first_13 _ _ _ _ (fun k hk=>by unfold eCr;rw[if_pos hk]) (fun k hk=>by unfold eCr;rw[if_neg (by omega),if_pos (by omega)];congr 1;omega) rfl);have ga:=fun u h1 h2=>axisMay_any a0 a1 a2 a3 a4 a5 a6 a7 a8 a9 a10 a11 a14 p q al zl cn cm hla.1 hla.2.1 u h1 h2;have gb:=fun u h1 h2=>axisMay_any b0 b1 b2 b3 b4 b5 b6 b7 b8 b9 b10 b11 b14 r s bl yl dn dm hlb.1 hlb.2.1 u h1 h2;have HLA:=Zab hla.2.2.2;have HLB:=Zab hlb.2.2.2;have HC0:Hid (CrH (w.alloc (.cells #[Vi a0,Vi a1,Vi a2,Vi a3,Vi a4,Vi a5,Vi a6,Vi a7,Vi a8,Vi a9,Vi a10,Vi a11,.slice p al.length cn,.slice q zl.length cm,Vi a14,Vi b0,Vi b1,Vi b2,Vi b3,Vi b4,Vi b5,Vi b6,Vi b7,Vi b8,Vi b9,Vi b10,Vi b11,.slice r bl.length dn,.slice s yl.length dm,Vi b14,Vi c0,Vi c1] 29)) w.heap.size [Vi a0,Vi a1,Vi a2,Vi a3,Vi a4,Vi a5,Vi a6,Vi a7,Vi a8,Vi a9,Vi a10,Vi a11,.slice p al.length cn,.slice q zl.length cm,Vi a14,Vi b0,Vi b1,Vi b2,Vi b3,Vi b4,Vi b5,Vi b6,Vi b7,Vi b8,Vi b9,Vi b10,Vi b11,.slice r bl.length dn,.slice s yl.length dm,Vi b14,Vi c0,Vi c1]):=Zab (World.alloc_heap_new w _);have HB0:Hid (Below w.heap.size w (w.alloc (.cells #[Vi a0,Vi a1,Vi a2,Vi a3,Vi a4,Vi a5,Vi a6,Vi a7,Vi a8,Vi a9,Vi a10,Vi a11,.slice p al.length cn,.slice q zl.length cm,Vi a14,Vi b0,Vi b1,Vi b2,Vi b3,Vi b4,Vi b5,Vi b6,Vi b7,Vi b8,Vi b9,Vi b10,Vi b11,.slice r bl.length dn,.slice s yl.length dm,Vi b14,Vi c0,Vi c1] 29))):=Zab (Zaa _ _);have g16:=ruleMay_any c0 c1;generalize fstN (eCr a0 a1 a2 a3 a4 a5 a6 a7 a8 a9 a10 a11 a14 al zl b0 b1 b2 b3 b4 b5 b6 b7 b8 b9 b10 b11 b14 bl yl c0 c1) 13=res at *;generalize fstN (eAx a0 a1 a2 a3 a4 a5 a6 a7 a8 a9 a10 a11 a14 al zl) 6=xa at *;generalize fstN (eAx b0 b1 b2 b3 b4 b5 b6 b7 b8 b9 b10 b11 b14 bl yl) 6=xb at *;generalize Zdh c0 c1=xc at *;clear hla hlb
 go_enter func41,ntmps41
 go_wp2_with fail;obtain⟨w0,hw0⟩:∃w0,w.alloc (.cells #[Vi a0,Vi a1,Vi a2,Vi a3,Vi a4,Vi a5,Vi a6,Vi a7,Vi a8,Vi a9,Vi a10,Vi a11,.slice p al.length cn,.slice q zl.length cm,Vi a14,Vi b0,Vi b1,Vi b2,Vi b3,Vi b4,Vi b5,Vi b6,Vi b7,Vi b8,Vi b9,Vi b10,Vi b11,.slice r bl.length dn,.slice s yl.length dm,Vi b14,Vi c0,Vi c1] 29)=w0:=⟨_,rfl⟩;rw[hw0] at HC0 HB0⊢;clear hw0;refine wp_loop_rounds 3 ?_;rw[rounds_succ]
 go_wp2_with (first
  |(refine Lq 26 _ rfl ?_;refine wpList_load_mid rfl 26 (.tmp 12) rfl w.heap.size 0 rfl [Vi a0,Vi a1,Vi a2,Vi a3,Vi a4,Vi a5,Vi a6,Vi a7,Vi a8,Vi a9,Vi a10,Vi a11,.slice p al.length cn,.slice q zl.length cm,Vi a14] _ (range_sub (n:=15) HC0.out.range 0) underlying26 rfl Zav ?_)
  |(go_at_call 86;refine Sb (ga _ (HLA.out.1.later HB0.out) (HLA.out.2.later HB0.out)) fun w1 hb1=>?_;have HC1:=Zab (HC0.out.later hb1);have HB1:=Zab (Zac HB0.out hb1);clear hb1)
  |(go_at_call 13;refine Sb (first_b _ _ _ _) fun w2 hq=>?_;have HC2:=Zab (HC1.out.later hq);have HB2:=Zab (Zac HB1.out hq);clear hq))
 rw[rounds_succ]
 go_wp2_with (first
  |(refine Lq 26 _ rfl ?_;refine wpList_load_mid rfl 26 (.tmp 12) rfl w.heap.size 15 rfl [Vi b0,Vi b1,Vi b2,Vi b3,Vi b4,Vi b5,Vi b6,Vi b7,Vi b8,Vi b9,Vi b10,Vi b11,.slice r bl.length dn,.slice s yl.length dm,Vi b14] _ (range_sub (n:=15) HC2.out.range 15) underlying26 rfl Zav ?_)
  |(go_at_call 86;refine Sb (gb _ (HLB.out.1.later HB2.out) (HLB.out.2.later HB2.out)) fun w3 hb3=>?_;have HC3:=Zab (HC2.out.later hb3);have HB3:=Zab (Zac HB2.out hb3);clear hb3)
  |(go_at_call 13;refine Sb (first_b _ _ _ _) fun w4 hq=>?_;have HC4:=Zab (HC3.out.later hq);have HB4:=Zab (Zac HB3.out hq);clear hq))
 have k30:w4.cell? (Ad w.heap.size 30)=some (Vi c0):=by have:=HC4.out.range 30 _ rfl;rwa[Nat.zero_add] at this
 have k31:w4.cell? (Ad w.heap.size 31)=some (Vi c1):=by have:=HC4.out.range 31 _ rfl;rwa[Nat.zero_add] at this
 rw[rounds_succ]
 go_wp2_with (first
  |(go_at_call 87;refine Sb (g16 _) fun w5 hb5=>?_;have HB5:=Zab (Zac HB4.out hb5);clear hb5)
  |(go_at_call 13;refine Sb (first_b _ _ _ _) fun w6 hq=>?_;have HB6:=Zab (Zac HB5.out hq);clear hq))
 go_ret;exact⟨by rw[HF.out];rfl,HB6.out⟩
structure FlOK (C:CR) (l:List Ft) (ss:List Stp):Prop where
 cr:crE C=0
 nl:l.length≤20
 ns:ss.length≤300
 ft:∀k,k<l.length→FtOK C (ftAt l k)
 st:∀k,k<ss.length→SA C (stAt ss k)
theorem RpO.slice{K:Nat}{u:World}{s:Value}{rs:List Rp}(h:RpO K u s rs):∃a c,s=.slice a rs.length c:=by
 rcases h.2 with⟨rfl,e⟩|⟨g,cap,cur,rfl,_⟩
 · exact⟨none,0,by rw[e]⟩
 · exact⟨_,cap,rfl⟩
def FwP(C:CR)(l:List Ft)(ss:List Stp)(K:Nat)(e:Ending)(w':World):Prop:=∃s b,e=.returned (.tuple #[s,.bool b])∧(b=true→FlOK C l ss∧RpO K w' s (rpU C l ss ss.length))∧(b=false→s=.slice none 0 0)
theorem FwP.no(C:CR)(l:List Ft)(ss:List Stp)(K:Nat)(w':World):FwP C l ss K (.returned (.tuple #[.slice none 0 0,.bool false])) w':=⟨_,_,rfl,(fun h=>by cases h),fun _=>rfl⟩
def rpD:Rp:=⟨fun _=>0,fun _=>0,fun _=>0,0,fun _ _=>0⟩
def rpAt(rs:List Rp)(k:Nat):Rp:=rs.getD k rpD
theorem encP_get:∀(rs:List Rp) (j i:Nat),j<rs.length→i<15→(encP rs)[j*15+i]?=(rpL (rpAt rs j))[i]?
 |[],j,_,hj,_=>by simp at hj
 |r::t,0,i,_,hi=>by
  have e:encP (r::t)=rpL r++encP t:=by simp[encP]
  rw[e,Nat.zero_mul,Nat.zero_add,List.getElem?_append_left (by rw[rpL_len];exact hi)]
  rfl
 |r::t,j+1,i,hj,hi=>by
  have e:encP (r::t)=rpL r++encP t:=by simp[encP]
  rw[e,List.getElem?_append_right (by rw[rpL_len];omega),rpL_len,show(j+1)*15+i-15=j*15+i by omega,encP_get t j i (by simpa using hj) hi]
  rfl
theorem RpO.at{K:Nat}{u:World}{a:Option Addr}{n c:Nat}{rs:List Rp}(h:RpO K u (.slice a n c) rs){j:Nat}(hj:j<rs.length):∃g,a=some (Ad g 0)∧u.rangeAt g (j*15) (rpL (rpAt rs j)):=by
 rcases h.2 with⟨_,e⟩|⟨g,cap,cur,e,_,hb,h1,h2,h3,h4⟩
 · omega
 · simp only[Value.slice.injEq] at e;refine⟨g,e.1,fun i v hv=>?_⟩
   have hi:i<15:=by
    have:=(List.getElem?_eq_some_iff.1 hv).1;rw[rpL_len] at this;exact this
   have hlt:j*15+i<rs.length*15:=by omega
   have hg:=encP_get rs j i hj hi;rw[←h4,List.getElem?_take_of_lt hlt,Array.getElem?_toList,hv] at hg;simp only[World.cell?,hb];simp only[Option.isSome_none,Bool.false_eq_true,if_false];exact hg
theorem DK.oth{O:Nat}{w w':World}(h:DK O w w'):Oth w w' O:=⟨h.size,h.os,h.tape,h.output,h.block⟩
section
variable {α : Type} {f : α → List Value} {m : Nat}
theorem encG_snoc(f:α→List Value)(l:List α)(r:α):(l++[r]).flatMap f=l.flatMap f++f r:=by simp
theorem encG_get(d:α)(hf:∀a,(f a).length=m):∀(rs:List α) (j i:Nat),j<rs.length→i<m→(rs.flatMap f)[j*m+i]?=(f (rs.getD j d))[i]?
 |[],j,_,hj,_=>by simp at hj
 |r::t,0,i,_,hi=>by
  have e:(r::t).flatMap f=f r++t.flatMap f:=by simp
  rw[e,Nat.zero_mul,Nat.zero_add,List.getElem?_append_left (by rw[hf];exact hi)]
  rfl
 |r::t,j+1,i,hj,hi=>by
  have e:(r::t).flatMap f=f r++t.flatMap f:=by simp
  have e2:(j+1)*m+i-m=j*m+i:=by rw[Nat.succ_mul];omega
  rw[e,List.getElem?_append_right (by rw[hf,Nat.succ_mul];omega),hf,e2,encG_get d hf t j i (by simpa using hj) hi]
  rfl
def RwO(f:α→List Value)(m:Nat)(t:TypeId)(K:Nat)(u:World)(s:Value)(rs:List α):Prop:=u.ownsRow K t m s rs.length (rs.flatMap f)
theorem RwO.nil(f:α→List Value)(m:Nat)(t:TypeId)(K:Nat)(u:World):RwO f m t K u (.slice none 0 0) []:=World.ownsRow_nil _ _ _ _
theorem RwO.later{t:TypeId}{K:Nat}{u u':World}{s:Value}{rs:List α}(h:RwO f m t K u s rs)(hb:Below u.heap.size u u'):RwO f m t K u' s rs:=Zaz h hb
theorem RwO.oth{t:TypeId}{K B:Nat}{u u':World}{s:Value}{rs:List α}(h:RwO f m t K u s rs)(hB:B<K)(ho:Oth u u' B):RwO f m t K u' s rs:=
 World.ownsRow.kept h ho.grown (by
  cases e:s.ownBlock with
  |none=>exact .inl rfl
  |some k=>exact .inr (fun e2=>by have:=(World.ownsRow.lt h k e).1;cases e2;omega))
theorem RwO.dk{t:TypeId}{K B:Nat}{u u':World}{s:Value}{rs:List α}(h:RwO f m t K u s rs)(hB:B<K)(ho:DK B u u'):RwO f m t K u' s rs:=h.oth hB ho.oth
theorem RwO.slice{t:TypeId}{K:Nat}{u:World}{s:Value}{rs:List α}(h:RwO f m t K u s rs):∃a c,s=.slice a rs.length c:=by
 rcases h.2 with⟨rfl,e⟩|⟨g,cap,cur,rfl,_⟩
 · exact⟨none,0,by rw[e]⟩
 · exact⟨_,cap,rfl⟩
theorem RwO.at(d:α)(hf:∀a,(f a).length=m){t:TypeId}{K:Nat}{u:World}{a:Option Addr}{n c:Nat}{rs:List α}(h:RwO f m t K u (.slice a n c) rs)(h0:rs≠[]):∃g,a=some (Ad g 0)∧∀j,j<rs.length→u.rangeAt g (j*m) (f (rs.getD j d)):=by
 rcases h.2 with⟨_,e⟩|⟨g,cap,cur,e,_,hb,h1,h2,h3,h4⟩
 · exact absurd (List.eq_nil_of_length_eq_zero e) h0
 · simp only[Value.slice.injEq] at e;refine⟨g,e.1,fun j hj i v hv=>?_⟩
   have hi:i<m:=by
    have:=(List.getElem?_eq_some_iff.1 hv).1;rw[hf] at this;exact this
   have hlt:j*m+i<rs.length*m:=by
    have:(j+1)*m≤rs.length*m:=Nat.mul_le_mul_right m hj;rw[Nat.succ_mul] at this
    omega
   have hg:=encG_get d hf rs j i hj hi;rw[←h4,List.getElem?_take_of_lt hlt,Array.getElem?_toList,hv] at hg;simp only[World.cell?,hb];simp only[Option.isSome_none,Bool.false_eq_true,if_false];exact hg
end
abbrev FtO:=RwO ftL 5 73
abbrev StO:=RwO stpL 8 78
def FtsOK(C:CR)(l:List Ft):Prop:=∀k,k<l.length→FtOK C (ftAt l k)
theorem FtsOK.nil(C:CR):FtsOK C []:=fun k hk=>by simp at hk
theorem FtsOK.app{C:CR}{l:List Ft}{f:Ft}(h:FtsOK C l)(hf:FtOK C f):FtsOK C (l++[f]):=fun k hk=>by
 by_cases e:k<l.length
 · have:ftAt (l++[f]) k=ftAt l k:=by unfold ftAt;rw[List.getD_eq_getElem?_getD,List.getD_eq_getElem?_getD,List.getElem?_append_left e]
   rw[this];exact h k e
 · have:ftAt (l++[f]) k=f:=by
    unfold ftAt
    have hk':k=l.length:=by simp at hk;omega
    subst hk';rw[List.getD_eq_getElem?_getD,List.getElem?_append_right (Nat.le_refl _)];simp
   rw[this];exact hf
def StsOK(C:CR)(l:List Stp):Prop:=∀k,k<l.length→SA C (stAt l k)
theorem StsOK.nil(C:CR):StsOK C []:=fun k hk=>by simp at hk
theorem StsOK.app{C:CR}{l:List Stp}{f:Stp}(h:StsOK C l)(hf:SA C f):StsOK C (l++[f]):=fun k hk=>by
 by_cases e:k<l.length
 · have:stAt (l++[f]) k=stAt l k:=by unfold stAt;rw[List.getD_eq_getElem?_getD,List.getD_eq_getElem?_getD,List.getElem?_append_left e]
   rw[this];exact h k e
 · have:stAt (l++[f]) k=f:=by
    unfold stAt
    have hk':k=l.length:=by simp at hk;omega
    subst hk';rw[List.getD_eq_getElem?_getD,List.getElem?_append_right (Nat.le_refl _)];simp
   rw[this];exact hf
theorem DK.blk{t:TypeId}{O B:Nat}{u u':World}{cs:List Value}(h:DK O u u')(hB:B≠O)(k:Blk t u B cs):Blk t u' B cs:=(h.block B k.lt hB).trans k
theorem Zds{K:Nat}{w w':World}{p:Addr}{v:Value}(hb:Below K w w')(hp:p.block<K)(h:w.cell? p=some v):w'.cell? p=some v:=(World.cell?_of_block (w:=w) (hb.block p.block hp)).trans h
theorem Dc.up{K O:Nat}{u u':World}{a:Option Addr}{l:List Int}{cap n:Nat}(h:Dc u O a l cap n)(hb:Below K u u')(hO:O<K)(hr:Zhe a l K):Dc u' O a l cap n:=by
 obtain⟨⟨h1,h2⟩,h3,h4,h5⟩:=h;refine⟨⟨Zds hb hO h1,Zds hb hO h2⟩,(World.frozen?_of_block (w:=u) (a:=⟨O,1,none⟩) (hb.block O hO)).trans h3,?_,h5⟩
 rcases h4 with h4|⟨b,off,h4,hc⟩
 · exact .inl h4
 · by_cases hl:l=[]
   · exact .inl hl
   · exact .inr ⟨b,off,h4,fun k hk=>Zds hb (by have:=hr b off h4 hl;simp;omega) (hc k hk)⟩
theorem RwO.below{α:Type}{f:α→List Value}{m:Nat}{t:TypeId}{K:Nat}{u u':World}{s:Value}{rs:List α}(h:RwO f m t K u s rs)(hK:K≤u.heap.size)(hg:u.grownBy u' s.ownBlock):Below K u u':=
 ⟨hg.os,hg.tape,hg.output,hg.size,fun k hk=>hg.block k (by omega) (fun e=>by have:=(World.ownsRow.lt h k e.symm).1;omega)⟩
def MF(w u:World)(C:CR)(O:Nat)(a:Option Addr)(l:List Int)(cap q:Nat)(s:Value)(ls:List Ft):Prop:=
 Dc u O a l cap q∧FtO (w.heap.size+1) u s ls∧Blk 29 u w.heap.size (crL C)∧DK O w u∧O<w.heap.size∧Zhe a l w.heap.size
section
variable {w u u' : World} {C : CR} {O : Nat} {a : Option Addr} {l : List Int} {cap q : Nat} {s : Value} {ls : List Ft}
theorem MF.later(h:MF w u C O a l cap q s ls)(hb:Below u.heap.size u u'):MF w u' C O a l cap q s ls:=
 ⟨h.1.later hb,h.2.1.later hb,h.2.2.1.later hb,h.2.2.2.1.trans (DK.of_below hb),h.2.2.2.2⟩
theorem MF.dk{q':Nat}(h:MF w u C O a l cap q s ls)(hd:Dc u' O a l cap q')(hk:DK O u u'):MF w u' C O a l cap q' s ls:=
 ⟨hd,h.2.1.dk (by have:=h.2.2.2.2.1;omega) hk,hk.blk (by have:=h.2.2.2.2.1;omega) h.2.2.1,h.2.2.2.1.trans hk,h.2.2.2.2⟩
theorem MF.room(h:MF w u C O a l cap q s ls):w.heap.size+1≤u.heap.size:=h.2.2.1.lt
theorem MF.grew{s':Value}{ls':List Ft}(h:MF w u C O a l cap q s ls)(hg:u.grownBy u' s.ownBlock)(hr:FtO (w.heap.size+1) u' s' ls'):MF w u' C O a l cap q s' ls':=by
 have hb:=h.2.1.below h.room hg;have hO:=h.2.2.2.2.1;refine⟨h.1.up hb (by omega) (fun b off e hl=>by have:=h.2.2.2.2.2 b off e hl;omega),hr,(hb.block _ (by omega)).trans h.2.2.1,?_,h.2.2.2.2⟩;have hk:=h.2.2.2.1;exact⟨hb.os.trans hk.os,hb.tape.trans hk.tape,hb.output.trans hk.output,Nat.le_trans hk.size hb.size,fun k h1 h2=>(hb.block k (by omega)).trans (hk.block k h1 h2)⟩
end
theorem diceMost4(O:Nat)(a:Option Addr)(l:List Int)(cap n:Nat)(x y z t lo hi:Int)(hn:n≤1000000)(hl:l.length≤100)(hb:(lo≤x∧x≤hi)∧(lo≤y∧y≤hi)∧(lo≤z∧z≤hi)∧lo≤t∧t≤hi)(w:World)(hd:Dc w O a l cap n):
 Calls prog 70 #[.pointer (some (Ad O 0)),.slice (some (Ad w.heap.size 0)) 4 4] (w.alloc (.cells #[Vi x,Vi y,Vi z,Vi t] 3)) fun e w'=>(∃q,e=.returned (Vi q)∧lo≤q∧q≤hi)∧Dc w' O a l cap (n+1)∧DK O w w':=by
 have hO:=hd.lt;refine(Zcx O w.heap.size a l cap n 4 [x,y,z,t] lo hi hn hl (by simp) (by simp) ?_ (by omega) _ (hd.later (Zaa _ _)) ?_).mono fun e w' h=>⟨h.1,h.2.1,(DK.of_below (Zaa _ _)).trans h.2.2.1⟩
 · intro k hk;simp only[List.length_cons,List.length_nil] at hk
   rcases(show k=0∨k=1∨k=2∨k=3 by omega) with rfl|rfl|rfl|rfl
   · exact hb.1
   · exact hb.2.1
   · exact hb.2.2.1
   · exact hb.2.2.2
 · intro k hk;simp only[List.length_cons,List.length_nil] at hk
   rcases(show k=0∨k=1∨k=2∨k=3 by omega) with rfl|rfl|rfl|rfl<;>simp[go_sem]
theorem RwO.ne{α:Type}{f:α→List Value}{m:Nat}{t t':TypeId}{K B:Nat}{u:World}{s:Value}{rs:List α}{cs:List Value}(h:RwO f m t K u s rs)(k:Blk t' u B cs)(hne:t'≠t):some B≠s.ownBlock:=by
 rcases ownsRow_ne_a h k (fun cur e=>absurd (Obj.cells.inj e).2.1 hne) with e|e
 · rw[e];simp
 · exact fun e'=>e e'.symm
theorem Oth.mblk{t:TypeId}{B Q:Nat}{u u':World}{cs:List Value}(h:Oth u u' B)(hB:Q≠B)(k:Blk t u Q cs):Blk t u' Q cs:=(h.2.2.2.2 Q k.lt hB).trans k
theorem Oth.ofBelow{u u':World}(B:Nat)(h:Below u.heap.size u u'):Oth u u' B:=(Oth.refl u B).later h
theorem Dc.oth{O B:Nat}{u u':World}{a:Option Addr}{l:List Int}{cap n:Nat}(h:Dc u O a l cap n)(hk:Oth u u' B)(hO:O≠B)(hr:∀b off,a=some (Ad b off)→l≠[]→b≠B):Dc u' O a l cap n:=by
 obtain⟨⟨h1,h2⟩,h3,h4,h5⟩:=h;refine⟨⟨hk.cell hO h1,hk.cell hO h2⟩,(World.frozen?_of_block (w:=u) (a:=⟨O,1,none⟩) (hk.2.2.2.2 O (World.block_lt_of_cell? u ⟨O,1,none⟩ h2) hO)).trans h3,?_,h5⟩
 rcases h4 with h4|⟨b,off,h4,hc⟩
 · exact .inl h4
 · by_cases hl:l=[]
   · exact .inl hl
   · exact .inr ⟨b,off,h4,fun k hk'=>hk.cell (hr b off h4 hl) (hc k hk')⟩
theorem RwO.far{α:Type}{f:α→List Value}{m:Nat}{t:TypeId}{K B:Nat}{u u':World}{s:Value}{rs:List α}(h:RwO f m t K u s rs)(ho:Oth u u' B)(hB:∀g,s.ownBlock=some g→g≠B):RwO f m t K u' s rs:=
 World.ownsRow.kept h ho.grown (by
  cases e:s.ownBlock with
  |none=>exact .inl rfl
  |some k=>exact .inr (fun e2=>hB k e (by cases e2;rfl)))
structure FP (w:World) (QK QZ O QF QL K:Nat) (a:Option Addr) (l:List Int) (s:Value):Prop where
 k:w.heap.size≤QK∧QK<QZ
 z:QZ<O
 o:O<QF
 f:QF<QL
 e:QL<K
 r:Zhe a l w.heap.size
 g:∀g,s.ownBlock=some g→O<g∧g<K∧g≠QF∧g≠QL
structure FV (C:CR) (w u:World) (QK QZ O QF QL K:Nat) (a:Option Addr) (l:List Int) (cap q:Nat) (s:Value) (ls:List Ft) (x y:Int) (v:Value) (ss:List Stp):Prop where
 d:Dc u O a l cap q
 k:Blk 29 u QK (crL C)
 z:Blk 67 u QZ [.slice none 0 0,.slice none 0 0]
 f:Blk 67 u QF [s,v]
 e:Blk 76 u QL [Vi x,Vi y]
 r:FtO (O+1) u s ls
 t:StO K u v ss
 b:Below w.heap.size w u
 h:K≤u.heap.size
section
variable {C : CR} {w u u' : World} {QK QZ O QF QL K : Nat} {a : Option Addr} {l : List Int} {cap q : Nat} {s : Value} {ls : List Ft} {x y : Int} {v : Value} {ss : List Stp}
theorem FV.oth{B:Nat}(p:FP w QK QZ O QF QL K a l s)(h:FV C w u QK QZ O QF QL K a l cap q s ls x y v ss)(ho:Oth u u' B)(hB:K≤B)(hv:∀g,v.ownBlock=some g→g≠B):FV C w u' QK QZ O QF QL K a l cap q s ls x y v ss:=by
 obtain⟨⟨pk0,pk1⟩,pz,po,pf,pl,pr,pg⟩:=p;refine⟨h.d.oth ho (by omega) (fun b off e hl=>by have:=pr b off e hl;omega),ho.mblk (by omega) h.k,ho.mblk (by omega) h.z,ho.mblk (by omega) h.f,ho.mblk (by omega) h.e,h.r.far ho (fun g e=>by have:=pg g e;omega),h.t.far ho hv,?_,Nat.le_trans h.h ho.1⟩;exact⟨ho.2.1.trans h.b.os,ho.2.2.1.trans h.b.tape,ho.2.2.2.1.trans h.b.output,Nat.le_trans h.b.size ho.1,fun k hk=>(ho.2.2.2.2 k (by have:=h.h;omega) (by omega)).trans (h.b.block k hk)⟩
theorem FV.later(p:FP w QK QZ O QF QL K a l s)(h:FV C w u QK QZ O QF QL K a l cap q s ls x y v ss)(hb:Below u.heap.size u u'):FV C w u' QK QZ O QF QL K a l cap q s ls x y v ss:=
 h.oth p (Oth.ofBelow u.heap.size hb) h.h (fun g e=>by have:=(World.ownsRow.lt h.t g e).2;omega)
theorem FV.dk{q':Nat}(p:FP w QK QZ O QF QL K a l s)(h:FV C w u QK QZ O QF QL K a l cap q s ls x y v ss)(hd:Dc u' O a l cap q')(hk:DK O u u'):FV C w u' QK QZ O QF QL K a l cap q' s ls x y v ss:=by
 obtain⟨⟨pk0,pk1⟩,pz,po,pf,pl,pr,pg⟩:=p;have ho:=hk.oth;refine⟨hd,ho.mblk (by omega) h.k,ho.mblk (by omega) h.z,ho.mblk (by omega) h.f,ho.mblk (by omega) h.e,h.r.far ho (fun g e=>by have:=pg g e;omega),h.t.far ho (fun g e=>by have:=(World.ownsRow.lt h.t g e).1;omega),?_,Nat.le_trans h.h ho.1⟩;exact⟨ho.2.1.trans h.b.os,ho.2.2.1.trans h.b.tape,ho.2.2.2.1.trans h.b.output,Nat.le_trans h.b.size ho.1,fun k hk=>(ho.2.2.2.2 k (by have:=h.h;omega) (by omega)).trans (h.b.block k hk)⟩
end
theorem isStoreT{P:Program}{ops:Array Oper}{rest:List Oper}{op:Oper}{a:Act}{w:World}{Q:Exit→Act→World→Prop}(t:TypeId)(x y:Operand)(_ho:op.op=.store t x y)(h:wpList P ops Q (op::rest) a w):wpList P ops Q (op::rest) a w:=h
theorem Zff{ops:Array Oper}{rest:List Oper}{op:Oper}{a:Act}{w:World}{Q:Exit→Act→World→Prop}{c c':Array Value}(t:TypeId)(n:Nat)(hi:(prog.info? t).map (·.size)=some n)(x y:Operand)(hgd:op.guard=none)(ho:op.op=.store t x y)
 (hx:a.eval x=.pointer (some (Ad w.heap.size 0))) (hy:a.eval y=.agg c') (hs:c'.size=n) (hc:c.size=c'.size) (h1:c'.all (·.oneCell')=true)
 (h:wpList prog ops Q rest (a.put op.dst undef) (w.alloc (.cells c' t))):wpList prog ops Q (op::rest) a (w.alloc (.cells c t)):=
 wpList_plain hgd fun _ hK=>by
  unfold Oper.wp execOp
  simp only[ho,hx,hy,Sem.run_bind,Sem.run_pure,Result.andThen_ok,run_storeAt_new w t c c' (by rw[hi,hs]) hc h1];exact hK _ _ h
theorem diceMost5(O:Nat)(a:Option Addr)(l:List Int)(cap n:Nat)(x y z t r lo hi:Int)(hn:n≤1000000)(hl:l.length≤100)(hb:(lo≤x∧x≤hi)∧(lo≤y∧y≤hi)∧(lo≤z∧z≤hi)∧(lo≤t∧t≤hi)∧lo≤r∧r≤hi)(w:World)(hd:Dc w O a l cap n):
 Calls prog 70 #[.pointer (some (Ad O 0)),.slice (some (Ad w.heap.size 0)) 5 5] (w.alloc (.cells #[Vi x,Vi y,Vi z,Vi t,Vi r] 3)) fun e w'=>(∃q,e=.returned (Vi q)∧lo≤q∧q≤hi)∧Dc w' O a l cap (n+1)∧DK O w w':=by
 have hO:=hd.lt;refine(Zcx O w.heap.size a l cap n 5 [x,y,z,t,r] lo hi hn hl (by simp) (by simp) ?_ (by omega) _ (hd.later (Zaa _ _)) ?_).mono fun e w' h=>⟨h.1,h.2.1,(DK.of_below (Zaa _ _)).trans h.2.2.1⟩
 · intro k hk;simp only[List.length_cons,List.length_nil] at hk
   rcases(show k=0∨k=1∨k=2∨k=3∨k=4 by omega) with rfl|rfl|rfl|rfl|rfl
   · exact hb.1
   · exact hb.2.1
   · exact hb.2.2.1
   · exact hb.2.2.2.1
   · exact hb.2.2.2.2
 · intro k hk;simp only[List.length_cons,List.length_nil] at hk
   rcases(show k=0∨k=1∨k=2∨k=3∨k=4 by omega) with rfl|rfl|rfl|rfl|rfl<;>simp[go_sem]
def flatS:List Sv→List Value
 |[]=>[]
 |s::r=>Vi s.1::Vi s.2.1::.bool s.2.2::flatS r
theorem flatS_app:∀(ls:List Sv) (s:Sv),flatS (ls++[s])=flatS ls++[Vi s.1,Vi s.2.1,.bool s.2.2]
 |[],s=>rfl
 |t::r,s=>by simp[flatS,flatS_app r s]
theorem flatS_get:∀(ls:List Sv) (k:Nat),k<ls.length→(flatS ls)[k*3]?=some (Vi (svAt ls k).1)∧(flatS ls)[k*3+1]?=some (Vi (svAt ls k).2.1)∧(flatS ls)[k*3+2]?=some (.bool (svAt ls k).2.2)
 |[],k,h=>by simp at h
 |s::r,0,_=>⟨rfl,rfl,rfl⟩
 |s::r,k+1,h=>by
  have i:=flatS_get r k (by simpa using h)
  have e:svAt (s::r) (k+1)=svAt r k:=by simp[svAt]
  rw[e,show(k+1)*3=k*3+1+1+1 by omega];exact⟨by simpa[flatS] using i.1,by rw[show k*3+1+1+1+1=(k*3+1)+1+1+1 by omega];simpa[flatS] using i.2.1,by rw[show k*3+1+1+1+2=(k*3+2)+1+1+1 by omega];simpa[flatS] using i.2.2⟩
theorem owns_at{w:World}{base:Nat}{e:TypeId}{size:Nat}{v:Value}{n:Nat}{xs:List Value}{g cap:Nat}(h:w.ownsRow base e size v n xs)(hv:v=.slice (some (Ad g 0)) n cap)(j:Nat)(hj:j<n*size):w.cell? (Ad g j)=xs[j]?:=by
 rcases h.2 with⟨h0,_⟩|⟨g',cap',cur,h1,_,h3,_,_,_,h7⟩
 · rw[h0] at hv;cases hv
 · rw[h1] at hv
   cases hv
   rw[cell_of_row w g j cur e (0,0) h3,←h7,List.getElem?_take,if_pos hj]
   simp
theorem vls_of_owns{w:World}{B:Nat}{a:Option Addr}{cap:Nat}{ls:List Sv}(h:w.ownsRow B 116 3 (.slice a ls.length cap) ls.length (flatS ls)):VLs w a ls:=by
 by_cases h0:ls.length=0
 · exact .inl (List.length_eq_zero_iff.mp h0)
 · right
   obtain⟨g,c,hv,_,_⟩:=h.form (by omega);simp only[Value.slice.injEq] at hv;obtain⟨rfl,_,rfl⟩:=hv;refine⟨g,0,rfl,fun k hk=>?_⟩;have f:=flatS_get ls k hk;rw[Nat.zero_add];exact⟨(owns_at h rfl (k*3) (by omega)).trans f.1,(owns_at h rfl (k*3+1) (by omega)).trans f.2.1,(owns_at h rfl (k*3+2) (by omega)).trans f.2.2⟩
theorem owns_dk{w w':World}{O base:Nat}{e:TypeId}{size:Nat}{v:Value}{n:Nat}{xs:List Value}(h:w.ownsRow base e size v n xs)(hk:DK O w w')(hO:O<base):w'.ownsRow base e size v n xs:=by
 refine⟨h.1,?_⟩
 rcases h.2 with h|⟨g,cap,cur,h1,h2,h3,h4⟩
 · exact .inl h
 · refine .inr ⟨g,cap,cur,h1,h2,?_,h4⟩;rw[hk.block g ?_ (by omega)]
   · exact h3
   · rcases Nat.lt_or_ge g w.heap.size with h|h
     · exact h
     · rw[Array.getElem?_eq_none h] at h3;cases h3
theorem owns_set{w:World}{P j base:Nat}{x:Value}{e:TypeId}{size:Nat}{v:Value}{n:Nat}{xs:List Value}(h:w.ownsRow base e size v n xs)(hP:∀g,v.ownBlock=some g→g≠P):(w.setCell (Ad P j) x).ownsRow base e size v n xs:=by
 refine⟨h.1,?_⟩
 rcases h.2 with h|⟨g,cap,cur,h1,h2,h3,h4⟩
 · exact .inl h
 · refine .inr ⟨g,cap,cur,h1,h2,?_,h4⟩;rw[Below.heap_setCell w ⟨P,j,none⟩ x g (by exact hP g (by rw[h1];rfl))];exact h3
def SVS(w0 w:World)(O:Nat)(a:Option Addr)(l:List Int)(cap n:Nat)(T R S C:Int)(v:Value)(ls:List Sv):Prop:=
 Dc w O a l cap n∧B4 w w0.heap.size (Vi T) (Vi R) (Vi S) (Vi C)∧w.ownsRow (w0.heap.size+1) 116 3 v ls.length (flatS ls)∧DK O w0 w∧(O<w0.heap.size∧Zhe a l w0.heap.size)
theorem SVS.dk{w0 w w':World}{O:Nat}{a l cap n m T R S C v ls}(h:SVS w0 w O a l cap n T R S C v ls)(hD:Dc w' O a l cap m)(hk:DK O w w'):SVS w0 w' O a l cap m T R S C v ls:=by
 obtain⟨_,⟨b0,b1,b2,b3⟩,h3,h4,h5,h6⟩:=h
 have hne:w0.heap.size≠O:=by omega
 exact⟨hD,⟨hk.cell (p:=⟨w0.heap.size,0,none⟩) hne b0,hk.cell (p:=⟨w0.heap.size,1,none⟩) hne b1,hk.cell (p:=⟨w0.heap.size,2,none⟩) hne b2,hk.cell (p:=⟨w0.heap.size,3,none⟩) hne b3⟩,owns_dk h3 hk (by omega),h4.trans hk,h5,h6⟩
theorem SVS.later{w0 w w':World}{O:Nat}{a l cap n T R S C v ls}(h:SVS w0 w O a l cap n T R S C v ls)(hb:Below w.heap.size w w'):SVS w0 w' O a l cap n T R S C v ls:=
 ⟨h.1.later hb,h.2.1.later hb,Zaz h.2.2.1 hb,h.2.2.2.1.trans (DK.of_below hb),h.2.2.2.2⟩
end Go.Proofs.YtnfdfiholcelaaaGreatDoor
