import Derived.RegionTactic
import Derived.ChangeAlike
import Derived.Deep.QuietTactic
import Derived.BigQuiet
import Derived.Deep.RegionHeld3
import Derived.Deep.CutRange
import Derived.Test.YtnfdfiholcelaaaGreatDoorJh00
import Derived.Test.YtnfdfiholcelaaaGreatDoorJh01
import Derived.Test.YtnfdfiholcelaaaGreatDoorJh02
set_option maxRecDepth 100000
set_option maxHeartbeats 20000000
namespace Go.Proofs.YtnfdfiholcelaaaGreatDoor
open Go.RowKit Plain Tryz
def B6(w:World)(B:Nat)(L H N P M R:Int):Prop:=(w.cell? (Ad B 0)=some (Vi L)∧w.cell? (Ad B 1)=some (Vi H)∧w.cell? (Ad B 2)=some (Vi N)∧w.cell? (Ad B 3)=some (Vi P)∧w.cell? (Ad B 4)=some (Vi M)∧w.cell? (Ad B 5)=some (Vi R))
theorem Zak{w w':World}{p:Addr}{v:Value}(hb:Below w.heap.size w w')(h:w.cell? p=some v):w'.cell? p=some v:=by
 rw[hb.cell (World.block_lt_of_cell? w p h)];exact h
theorem B6.later{w w':World}{B:Nat}{L H N P M R:Int}(h:B6 w B L H N P M R)(hb:Below w.heap.size w w'):B6 w' B L H N P M R:=
 ⟨Zak hb h.1,Zak hb h.2.1,Zak hb h.2.2.1,Zak hb h.2.2.2.1,Zak hb h.2.2.2.2.1,Zak hb h.2.2.2.2.2⟩
theorem B6.new(w:World)(L H N P M R:Int)(t:TypeId):B6 (w.alloc (.cells #[Vi L,Vi H,Vi N,Vi P,Vi M,Vi R] t)) w.heap.size L H N P M R:=by
 refine⟨?_,?_,?_,?_,?_,?_⟩<;>simp[go_sem]
def GB(w0 w:World)(L H N P M R:Int):Prop:=B6 w w0.heap.size L H N P M R∧Below w0.heap.size w0 w
theorem GB.later{w0 w w':World}{L H N P M R:Int}(h:GB w0 w L H N P M R)(hb:Below w.heap.size w w'):GB w0 w' L H N P M R:=⟨h.1.later hb,Zac h.2 hb⟩
theorem GB.new(w:World)(L H N P M R:Int):GB w (w.alloc (.cells #[Vi L,Vi H,Vi N,Vi P,Vi M,Vi R] 99)) L H N P M R:=⟨B6.new w _ _ _ _ _ _ _,Zaa _ _⟩
theorem Zgk{w u u':World}{L H N P M R:Int}(hb:Below u.heap.size u u')(h:(u.cell? (Ad w.heap.size 0)=some (Vi L)∧u.cell? (Ad w.heap.size 1)=some (Vi H)∧u.cell? (Ad w.heap.size 2)=some (Vi N)∧u.cell? (Ad w.heap.size 3)=some (Vi P)∧u.cell? (Ad w.heap.size 4)=some (Vi M)∧u.cell? (Ad w.heap.size 5)=some (Vi R))∧Below w.heap.size w u):(u'.cell? (Ad w.heap.size 0)=some (Vi L)∧u'.cell? (Ad w.heap.size 1)=some (Vi H)∧u'.cell? (Ad w.heap.size 2)=some (Vi N)∧u'.cell? (Ad w.heap.size 3)=some (Vi P)∧u'.cell? (Ad w.heap.size 4)=some (Vi M)∧u'.cell? (Ad w.heap.size 5)=some (Vi R))∧Below w.heap.size w u':=⟨B6.later h.1 hb,Zac h.2 hb⟩
theorem grB_eq(L H N P M R:Int):grB L H N P M R=(betw L (-100000) 100000&&betw H (-100000) 100000&&betw N 0 1000&&betw P 0 2000&&betw M 1 4000&&betw R 1 M):=rfl
theorem isInRange_any(L H N P M R:Int)(w:World):
 Calls prog 226 #[.agg #[Vi L,Vi H,Vi N,Vi P,Vi M,Vi R]] w fun e w'=>e=.returned (.bool (grB L H N P M R))∧Below w.heap.size w w':=by
 have f1:=Zbc L (-100000) 100000;have f2:=Zbc H (-100000) 100000;have f3:=Zbc N 0 1000;have f4:=Zbc P 0 2000;have f5:=Zbc M 1 4000;have f6:=Zbc R 1 M;rw[grB_eq];generalize betw L (-100000) 100000=x1 at *;generalize betw H (-100000) 100000=x2 at *;generalize betw N 0 1000=x3 at *;generalize betw P 0 2000=x4 at *;generalize betw M 1 4000=x5 at *;generalize betw R 1 M=x6 at*
 rcases(show(x1=false)∨(x1=true∧x2=false)∨(x1=true∧x2=true∧x3=false)∨(x1=true∧x2=true∧x3=true∧x4=false)∨(x1=true∧x2=true∧x3=true∧x4=true∧x5=false)∨(x1=true∧x2=true∧x3=true∧x4=true∧x5=true∧x6=false)∨(x1=true∧x2=true∧x3=true∧x4=true∧x5=true∧x6=true) by cases x1<;>cases x2<;>cases x3<;>cases x4<;>cases x5<;>cases x6<;>simp) with rfl|⟨rfl,rfl⟩|⟨rfl,rfl,rfl⟩|⟨rfl,rfl,rfl,rfl⟩|⟨rfl,rfl,rfl,rfl,rfl⟩|⟨rfl,rfl,rfl,rfl,rfl,rfl⟩|⟨rfl,rfl,rfl,rfl,rfl,rfl⟩
 all_goals
  go_enter func226,ntmps226
  go_wp2_with (first|((first|go_at_call_of 76 (Vi R)|go_at_call_of 76 (Value.int .i64 R));refine(f6 _).mono ?_;rintro e w' ⟨rfl,rfl⟩)|((first|go_at_call_of 76 (Vi M)|go_at_call_of 76 (Value.int .i64 M));refine(f5 _).mono ?_;rintro e w' ⟨rfl,rfl⟩)|((first|go_at_call_of 76 (Vi P)|go_at_call_of 76 (Value.int .i64 P));refine(f4 _).mono ?_;rintro e w' ⟨rfl,rfl⟩)|((first|go_at_call_of 76 (Vi N)|go_at_call_of 76 (Value.int .i64 N));refine(f3 _).mono ?_;rintro e w' ⟨rfl,rfl⟩)|((first|go_at_call_of 76 (Vi H)|go_at_call_of 76 (Value.int .i64 H));refine(f2 _).mono ?_;rintro e w' ⟨rfl,rfl⟩)|((first|go_at_call_of 76 (Vi L)|go_at_call_of 76 (Value.int .i64 L));refine(f1 _).mono ?_;rintro e w' ⟨rfl,rfl⟩));go_ret;exact⟨rfl,by repeat (first|exact Zaa _ _|refine Zac ?_ (Zaa _ _))⟩
theorem Zhy(L H N P M R:Int)(w:World):
 Calls prog 182 #[.agg #[Vi L,Vi H,Vi N,Vi P,Vi M,Vi R]] w fun e w'=>e=.returned (errV (grE L H N P M R))∧Below w.heap.size w w':=by
 have hin:=isInRange_any L H N P M R;have HX:=Zab (GB.new w L H N P M R);have hE:grE L H N P M R=if grB L H N P M R then(if gfB L H N P M R then 0 else 3) else 1:=rfl
 by_cases hg:grB L H N P M R=true
 · rw[hg] at hin hE;obtain⟨l0,l1,h0,h1,n0,n1,p0,p1,m0,m1,r0,r1⟩:=grB_true hg
   by_cases c1:P≤M
   · by_cases c2:P≤R
     · have hbr:=fun w=>(brake_ex L H N P M R M p0 p1 r0 (by omega) (by omega) (by omega) w).mono (fun e w' h=>(⟨h.1,by rw[h.2];exact Zaa _ _⟩:e=_∧Below w.heap.size w w'));have hk:=bk_lt (R:=R) (f:=M+P) (by omega) (by omega);have hk0:=Zbs R (M+P)
       have hf:gfB L H N P M R=decide (2*(N+bk R (M+P))≤H-L):=by unfold gfB;rw[decide_eq_true c1,decide_eq_true c2];rfl
       generalize bk R (M+P)=k at *;have v1:=Wr (N+k);have v2:=Wr (2*(N+k));have v3:=Wr (H-L)
       by_cases c3:2*(N+k)≤H-L
       · have HE:Hid (grE L H N P M R=0):=by show _=_;rw[hE,hf,decide_eq_true c3];rfl
         have d3:decide (H-L<2*(N+k))=false:=decide_eq_false (by omega);clear hE hf hg
         go_enter func182,ntmps182
         go_upto_region 5 with(go_at_call 226;refine Sb (hin _) fun w1 hb1=>?_;have HX:=Zab (HX.out.later hb1);obtain⟨⟨q0,q1,q2,q3,q4,q5⟩,_⟩:=HX.out;clear hb1);obtain⟨⟨q0,q1,q2,q3,q4,q5⟩,_⟩:=HX.out;have S0:(w1.cell? (Ad w.heap.size 0)=some (Vi L)∧w1.cell? (Ad w.heap.size 1)=some (Vi H)∧w1.cell? (Ad w.heap.size 2)=some (Vi N)∧w1.cell? (Ad w.heap.size 3)=some (Vi P)∧w1.cell? (Ad w.heap.size 4)=some (Vi M)∧w1.cell? (Ad w.heap.size 5)=some (Vi R))∧Below w.heap.size w w1:=HX.out;have Z:=Zab S0
         go_region_held3 (fun u=>(u.cell? (Ad w.heap.size 0)=some (Vi L)∧u.cell? (Ad w.heap.size 1)=some (Vi H)∧u.cell? (Ad w.heap.size 2)=some (Vi N)∧u.cell? (Ad w.heap.size 3)=some (Vi P)∧u.cell? (Ad w.heap.size 4)=some (Vi M)∧u.cell? (Ad w.heap.size 5)=some (Vi R))∧Below w.heap.size w u)
          (first
           |(with_reducible assumption)
           |(with_reducible apply Zgk;with_reducible assumption;with_reducible assumption)
           |(refine Zgk ?_ Z.out;exact(Below.refl _ _).drew))
          (first
           |(go_at_call 227;refine Sb (hbr _) fun w' hb=>?_))
         all_goals
          rename_i hH
          have HB:=Zab hH.2;clear hH;go_wp2_with fail;go_ret;exact⟨by rw[HE.out];rfl,HB.out⟩
       · have HE:Hid (grE L H N P M R=3):=by show _=_;rw[hE,hf,decide_eq_false c3];rfl
         have d3:decide (H-L<2*(N+k))=true:=decide_eq_true (by omega);clear hE hf hg
         go_enter func182,ntmps182
         go_upto_region 5 with(go_at_call 226;refine Sb (hin _) fun w1 hb1=>?_;have HX:=Zab (HX.out.later hb1);obtain⟨⟨q0,q1,q2,q3,q4,q5⟩,_⟩:=HX.out;clear hb1);obtain⟨⟨q0,q1,q2,q3,q4,q5⟩,_⟩:=HX.out;have S0:(w1.cell? (Ad w.heap.size 0)=some (Vi L)∧w1.cell? (Ad w.heap.size 1)=some (Vi H)∧w1.cell? (Ad w.heap.size 2)=some (Vi N)∧w1.cell? (Ad w.heap.size 3)=some (Vi P)∧w1.cell? (Ad w.heap.size 4)=some (Vi M)∧w1.cell? (Ad w.heap.size 5)=some (Vi R))∧Below w.heap.size w w1:=HX.out;have Z:=Zab S0
         go_region_held3 (fun u=>(u.cell? (Ad w.heap.size 0)=some (Vi L)∧u.cell? (Ad w.heap.size 1)=some (Vi H)∧u.cell? (Ad w.heap.size 2)=some (Vi N)∧u.cell? (Ad w.heap.size 3)=some (Vi P)∧u.cell? (Ad w.heap.size 4)=some (Vi M)∧u.cell? (Ad w.heap.size 5)=some (Vi R))∧Below w.heap.size w u)
          (first
           |(with_reducible assumption)
           |(with_reducible apply Zgk;with_reducible assumption;with_reducible assumption)
           |(refine Zgk ?_ Z.out;exact(Below.refl _ _).drew))
          (first
           |(go_at_call 227;refine Sb (hbr _) fun w' hb=>?_))
         all_goals
          rename_i hH
          have HB:=Zab hH.2;clear hH;go_wp2_with fail;go_ret;exact⟨by rw[HE.out];rfl,HB.out⟩
     · have HE:Hid (grE L H N P M R=3):=by show _=_;rw[hE];unfold gfB;rw[decide_eq_false c2];simp
       clear hE hg
       go_enter func182,ntmps182
       go_wp2_with (go_at_call 226;refine Sb (hin _) fun w1 hb1=>?_;have HX:=Zab (HX.out.later hb1);obtain⟨⟨q0,q1,q2,q3,q4,q5⟩,_⟩:=HX.out;clear hb1);go_ret;exact⟨by rw[HE.out];rfl,HX.out.2⟩
   · have HE:Hid (grE L H N P M R=3):=by show _=_;rw[hE];unfold gfB;rw[decide_eq_false c1];simp
     clear hE hg
     go_enter func182,ntmps182
     go_wp2_with (go_at_call 226;refine Sb (hin _) fun w1 hb1=>?_;have HX:=Zab (HX.out.later hb1);obtain⟨⟨q0,q1,q2,q3,q4,q5⟩,_⟩:=HX.out;clear hb1);go_ret;exact⟨by rw[HE.out];rfl,HX.out.2⟩
 · have hg':grB L H N P M R=false:=by simpa using hg
   rw[hg'] at hin hE;have HE:Hid (grE L H N P M R=1):=hE;clear hE hg hg'
   go_enter func182,ntmps182
   go_wp2_with (go_at_call 226;refine Sb (hin _) fun w1 hb1=>?_;have HX:=Zab (HX.out.later hb1);obtain⟨⟨q0,q1,q2,q3,q4,q5⟩,_⟩:=HX.out;clear hb1);go_ret;exact⟨by rw[HE.out];rfl,HX.out.2⟩
theorem guardMay_no(L H N P M R:Int)(hg:grB L H N P M R=false)(w:World):
 Calls prog 139 #[.agg #[Vi L,Vi H,Vi N,Vi P,Vi M,Vi R]] w fun e w'=>e=.returned (Vi 1)∧Below w.heap.size w w':=by
 have f1:=Zaj L (-100000) 100000;have f2:=Zaj H (-100000) 100000;have f3:=Zaj N 0 1000;have f4:=Zaj P 0 2000;have f5:=Zaj M 1 4000;have f6:=Zaj R 1 M;rw[grB_eq] at hg;generalize betw L (-100000) 100000=x1 at *;generalize betw H (-100000) 100000=x2 at *;generalize betw N 0 1000=x3 at *;generalize betw P 0 2000=x4 at *;generalize betw M 1 4000=x5 at *;generalize betw R 1 M=x6 at*
 rcases(show(x1=false)∨(x1=true∧x2=false)∨(x1=true∧x2=true∧x3=false)∨(x1=true∧x2=true∧x3=true∧x4=false)∨(x1=true∧x2=true∧x3=true∧x4=true∧x5=false)∨(x1=true∧x2=true∧x3=true∧x4=true∧x5=true∧x6=false) by cases x1<;>cases x2<;>cases x3<;>cases x4<;>cases x5<;>cases x6<;>simp_all) with rfl|⟨rfl,rfl⟩|⟨rfl,rfl,rfl⟩|⟨rfl,rfl,rfl,rfl⟩|⟨rfl,rfl,rfl,rfl,rfl⟩|⟨rfl,rfl,rfl,rfl,rfl,rfl⟩
 all_goals
  clear hg
  go_enter func139,ntmps139
  go_wp2_with (first|((first|go_at_call_of 38 (Vi R)|go_at_call_of 38 (Value.int .i64 R));refine(f6 _).mono ?_;rintro e w' ⟨rfl,rfl⟩)|((first|go_at_call_of 38 (Vi M)|go_at_call_of 38 (Value.int .i64 M));refine(f5 _).mono ?_;rintro e w' ⟨rfl,rfl⟩)|((first|go_at_call_of 38 (Vi P)|go_at_call_of 38 (Value.int .i64 P));refine(f4 _).mono ?_;rintro e w' ⟨rfl,rfl⟩)|((first|go_at_call_of 38 (Vi N)|go_at_call_of 38 (Value.int .i64 N));refine(f3 _).mono ?_;rintro e w' ⟨rfl,rfl⟩)|((first|go_at_call_of 38 (Vi H)|go_at_call_of 38 (Value.int .i64 H));refine(f2 _).mono ?_;rintro e w' ⟨rfl,rfl⟩)|((first|go_at_call_of 38 (Vi L)|go_at_call_of 38 (Value.int .i64 L));refine(f1 _).mono ?_;rintro e w' ⟨rfl,rfl⟩));go_ret;exact⟨rfl,Zaa _ _⟩
theorem guardMay_yes(L H N P M R:Int)(hg:grB L H N P M R=true)(w:World):
 Calls prog 139 #[.agg #[Vi L,Vi H,Vi N,Vi P,Vi M,Vi R]] w fun e w'=>e=.returned (Vi (grE L H N P M R))∧Below w.heap.size w w':=by
 have hE:grE L H N P M R=if gfB L H N P M R then 0 else 3:=by unfold grE;rw[if_pos hg]
 obtain⟨l0,l1,h0,h1,n0,n1,p0,p1,m0,m1,r0,r1⟩:=grB_true hg;have f1:=Zaj L (-100000) 100000;have f2:=Zaj H (-100000) 100000;have f3:=Zaj N 0 1000;have f4:=Zaj P 0 2000;have f5:=Zaj M 1 4000;have f6:=Zaj R 1 M;rw[Zbm l0 l1] at f1;rw[Zbm h0 h1] at f2;rw[Zbm n0 n1] at f3;rw[Zbm p0 p1] at f4;rw[Zbm m0 m1] at f5;rw[Zbm r0 r1] at f6;have HX:=Zab (GB.new w L H N P M R);clear hg
 by_cases c1:P≤M
 · by_cases c2:P≤R
   · have hbr:=fun w=>(Zfn L H N P M R M p0 p1 r0 (by omega) (by omega) (by omega) w).mono (fun e w' h=>(⟨h.1,by rw[h.2];exact Zaa _ _⟩:e=_∧Below w.heap.size w w'));have hk:=bk_lt (R:=R) (f:=M+P) (by omega) (by omega);have hk0:=Zbs R (M+P)
     have hf:gfB L H N P M R=decide (2*(N+bk R (M+P))≤H-L):=by unfold gfB;rw[decide_eq_true c1,decide_eq_true c2];rfl
     generalize bk R (M+P)=k at *;have v1:=Wr (N+k);have v2:=Wr (2*(N+k));have v3:=Wr (H-L);have d1:decide (M<P)=false:=decide_eq_false (by omega);have d2:decide (R<P)=false:=decide_eq_false (by omega)
     by_cases c3:2*(N+k)≤H-L
     · have HE:Hid (grE L H N P M R=0):=by show _=_;rw[hE,hf,decide_eq_true c3];rfl
       have d3:decide (H-L<2*(N+k))=false:=decide_eq_false (by omega);clear hE hf
       go_enter func139,ntmps139
       go_upto_region 4 with(first|((first|go_at_call_of 38 (Vi R)|go_at_call_of 38 (Value.int .i64 R));refine(f6 _).mono ?_;rintro e w' ⟨rfl,rfl⟩)|((first|go_at_call_of 38 (Vi M)|go_at_call_of 38 (Value.int .i64 M));refine(f5 _).mono ?_;rintro e w' ⟨rfl,rfl⟩)|((first|go_at_call_of 38 (Vi P)|go_at_call_of 38 (Value.int .i64 P));refine(f4 _).mono ?_;rintro e w' ⟨rfl,rfl⟩)|((first|go_at_call_of 38 (Vi N)|go_at_call_of 38 (Value.int .i64 N));refine(f3 _).mono ?_;rintro e w' ⟨rfl,rfl⟩)|((first|go_at_call_of 38 (Vi H)|go_at_call_of 38 (Value.int .i64 H));refine(f2 _).mono ?_;rintro e w' ⟨rfl,rfl⟩)|((first|go_at_call_of 38 (Vi L)|go_at_call_of 38 (Value.int .i64 L));refine(f1 _).mono ?_;rintro e w' ⟨rfl,rfl⟩));generalize w.alloc (.cells #[Vi L,Vi H,Vi N,Vi P,Vi M,Vi R] 99)=w1 at *;obtain⟨⟨q0,q1,q2,q3,q4,q5⟩,_⟩:=HX.out;have S0:(w1.cell? (Ad w.heap.size 0)=some (Vi L)∧w1.cell? (Ad w.heap.size 1)=some (Vi H)∧w1.cell? (Ad w.heap.size 2)=some (Vi N)∧w1.cell? (Ad w.heap.size 3)=some (Vi P)∧w1.cell? (Ad w.heap.size 4)=some (Vi M)∧w1.cell? (Ad w.heap.size 5)=some (Vi R))∧Below w.heap.size w w1:=HX.out;have Z:=Zab S0
       go_region_held3 (fun u=>(u.cell? (Ad w.heap.size 0)=some (Vi L)∧u.cell? (Ad w.heap.size 1)=some (Vi H)∧u.cell? (Ad w.heap.size 2)=some (Vi N)∧u.cell? (Ad w.heap.size 3)=some (Vi P)∧u.cell? (Ad w.heap.size 4)=some (Vi M)∧u.cell? (Ad w.heap.size 5)=some (Vi R))∧Below w.heap.size w u)
        (first
         |(with_reducible assumption)
         |(with_reducible apply Zgk;with_reducible assumption;with_reducible assumption)
         |(refine Zgk ?_ Z.out;exact(Below.refl _ _).drew))
        (first
         |(go_at_call 39;refine Sb (hbr _) fun w' hb=>?_)
         |(go_at_call 14;refine(Zcr _ _ _).mono ?_;rintro e w' ⟨rfl,rfl⟩))
       all_goals
        rename_i hH
        have HB:=Zab hH.2;clear hH;go_wp2_with fail;go_ret;exact⟨by rw[HE.out];rfl,HB.out⟩
     · have HE:Hid (grE L H N P M R=3):=by show _=_;rw[hE,hf,decide_eq_false c3];rfl
       have d3:decide (H-L<2*(N+k))=true:=decide_eq_true (by omega);clear hE hf
       go_enter func139,ntmps139
       go_upto_region 4 with(first|((first|go_at_call_of 38 (Vi R)|go_at_call_of 38 (Value.int .i64 R));refine(f6 _).mono ?_;rintro e w' ⟨rfl,rfl⟩)|((first|go_at_call_of 38 (Vi M)|go_at_call_of 38 (Value.int .i64 M));refine(f5 _).mono ?_;rintro e w' ⟨rfl,rfl⟩)|((first|go_at_call_of 38 (Vi P)|go_at_call_of 38 (Value.int .i64 P));refine(f4 _).mono ?_;rintro e w' ⟨rfl,rfl⟩)|((first|go_at_call_of 38 (Vi N)|go_at_call_of 38 (Value.int .i64 N));refine(f3 _).mono ?_;rintro e w' ⟨rfl,rfl⟩)|((first|go_at_call_of 38 (Vi H)|go_at_call_of 38 (Value.int .i64 H));refine(f2 _).mono ?_;rintro e w' ⟨rfl,rfl⟩)|((first|go_at_call_of 38 (Vi L)|go_at_call_of 38 (Value.int .i64 L));refine(f1 _).mono ?_;rintro e w' ⟨rfl,rfl⟩));generalize w.alloc (.cells #[Vi L,Vi H,Vi N,Vi P,Vi M,Vi R] 99)=w1 at *;obtain⟨⟨q0,q1,q2,q3,q4,q5⟩,_⟩:=HX.out;have S0:(w1.cell? (Ad w.heap.size 0)=some (Vi L)∧w1.cell? (Ad w.heap.size 1)=some (Vi H)∧w1.cell? (Ad w.heap.size 2)=some (Vi N)∧w1.cell? (Ad w.heap.size 3)=some (Vi P)∧w1.cell? (Ad w.heap.size 4)=some (Vi M)∧w1.cell? (Ad w.heap.size 5)=some (Vi R))∧Below w.heap.size w w1:=HX.out;have Z:=Zab S0
       go_region_held3 (fun u=>(u.cell? (Ad w.heap.size 0)=some (Vi L)∧u.cell? (Ad w.heap.size 1)=some (Vi H)∧u.cell? (Ad w.heap.size 2)=some (Vi N)∧u.cell? (Ad w.heap.size 3)=some (Vi P)∧u.cell? (Ad w.heap.size 4)=some (Vi M)∧u.cell? (Ad w.heap.size 5)=some (Vi R))∧Below w.heap.size w u)
        (first
         |(with_reducible assumption)
         |(with_reducible apply Zgk;with_reducible assumption;with_reducible assumption)
         |(refine Zgk ?_ Z.out;exact(Below.refl _ _).drew))
        (first
         |(go_at_call 39;refine Sb (hbr _) fun w' hb=>?_)
         |(go_at_call 14;refine(Zcr _ _ _).mono ?_;rintro e w' ⟨rfl,rfl⟩))
       all_goals
        rename_i hH
        have HB:=Zab hH.2;clear hH;go_wp2_with fail;go_ret;exact⟨by rw[HE.out];rfl,HB.out⟩
   · have HE:Hid (grE L H N P M R=3):=by show _=_;rw[hE];unfold gfB;rw[decide_eq_false c2];simp
     have d1:decide (M<P)=false:=decide_eq_false (by omega);have d2:decide (R<P)=true:=decide_eq_true (by omega);clear hE
     go_enter func139,ntmps139
     go_upto_region 4 with(first|((first|go_at_call_of 38 (Vi R)|go_at_call_of 38 (Value.int .i64 R));refine(f6 _).mono ?_;rintro e w' ⟨rfl,rfl⟩)|((first|go_at_call_of 38 (Vi M)|go_at_call_of 38 (Value.int .i64 M));refine(f5 _).mono ?_;rintro e w' ⟨rfl,rfl⟩)|((first|go_at_call_of 38 (Vi P)|go_at_call_of 38 (Value.int .i64 P));refine(f4 _).mono ?_;rintro e w' ⟨rfl,rfl⟩)|((first|go_at_call_of 38 (Vi N)|go_at_call_of 38 (Value.int .i64 N));refine(f3 _).mono ?_;rintro e w' ⟨rfl,rfl⟩)|((first|go_at_call_of 38 (Vi H)|go_at_call_of 38 (Value.int .i64 H));refine(f2 _).mono ?_;rintro e w' ⟨rfl,rfl⟩)|((first|go_at_call_of 38 (Vi L)|go_at_call_of 38 (Value.int .i64 L));refine(f1 _).mono ?_;rintro e w' ⟨rfl,rfl⟩));generalize w.alloc (.cells #[Vi L,Vi H,Vi N,Vi P,Vi M,Vi R] 99)=w1 at *;obtain⟨⟨q0,q1,q2,q3,q4,q5⟩,_⟩:=HX.out;go_quiet ((go_at_call 14;exact Calls.quiet_of_same (Zcr _ _ _)));go_wp2;go_ret;exact⟨by rw[HE.out];rfl,Zac HX.out.2 (below_drewN (Below.refl _ _) _)⟩
 · have HE:Hid (grE L H N P M R=3):=by show _=_;rw[hE];unfold gfB;rw[decide_eq_false c1];simp
   have d1:decide (M<P)=true:=decide_eq_true (by omega);clear hE
   go_enter func139,ntmps139
   go_upto_region 4 with(first|((first|go_at_call_of 38 (Vi R)|go_at_call_of 38 (Value.int .i64 R));refine(f6 _).mono ?_;rintro e w' ⟨rfl,rfl⟩)|((first|go_at_call_of 38 (Vi M)|go_at_call_of 38 (Value.int .i64 M));refine(f5 _).mono ?_;rintro e w' ⟨rfl,rfl⟩)|((first|go_at_call_of 38 (Vi P)|go_at_call_of 38 (Value.int .i64 P));refine(f4 _).mono ?_;rintro e w' ⟨rfl,rfl⟩)|((first|go_at_call_of 38 (Vi N)|go_at_call_of 38 (Value.int .i64 N));refine(f3 _).mono ?_;rintro e w' ⟨rfl,rfl⟩)|((first|go_at_call_of 38 (Vi H)|go_at_call_of 38 (Value.int .i64 H));refine(f2 _).mono ?_;rintro e w' ⟨rfl,rfl⟩)|((first|go_at_call_of 38 (Vi L)|go_at_call_of 38 (Value.int .i64 L));refine(f1 _).mono ?_;rintro e w' ⟨rfl,rfl⟩));generalize w.alloc (.cells #[Vi L,Vi H,Vi N,Vi P,Vi M,Vi R] 99)=w1 at *;obtain⟨⟨q0,q1,q2,q3,q4,q5⟩,_⟩:=HX.out;go_quiet ((go_at_call 14;exact Calls.quiet_of_same (Zcr _ _ _)));go_wp2;go_ret;exact⟨by rw[HE.out];rfl,Zac HX.out.2 (below_drewN (Below.refl _ _) _)⟩
theorem guardMay_any(L H N P M R:Int)(w:World):
 Calls prog 139 #[.agg #[Vi L,Vi H,Vi N,Vi P,Vi M,Vi R]] w fun e w'=>e=.returned (Vi (grE L H N P M R))∧Below w.heap.size w w':=by
 by_cases hg:grB L H N P M R=true
 · exact guardMay_yes L H N P M R hg w
 · have hg':grB L H N P M R=false:=by simpa using hg
   rw[show grE L H N P M R=1 by unfold grE;rw[if_neg hg]];exact guardMay_no L H N P M R hg' w
def gmE(L H N P M R s:Int):Int:=if grE L H N P M R=0 then(if betw s (-M) M then 0 else 1) else grE L H N P M R
theorem checkMove_any(L H N P M R s:Int)(w:World):
 Calls prog 241 #[.agg #[Vi L,Vi H,Vi N,Vi P,Vi M,Vi R],Vi s] w fun e w'=>e=.returned (errV (gmE L H N P M R s))∧Below w.heap.size w w':=by
 have hc:=Zhy L H N P M R;have HX:=Zab (GB.new w L H N P M R)
 by_cases he:grE L H N P M R=0
 · have hE:gmE L H N P M R s=if betw s (-M) M then 0 else 1:=by unfold gmE;rw[if_pos he]
   rw[he,Zar] at hc;obtain⟨⟨l0,l1,h0,h1,n0,n1,p0,p1,m0,m1,r0,r1⟩,pm,pr,room⟩:=grE_ok he;have f1:=Zcw s (-M) M;clear he room;generalize betw s (-M) M=x1 at*
   cases x1
   · have HE:Hid (gmE L H N P M R s=1):=hE;clear hE
     go_enter func241,ntmps241
     go_wp2_with (first|(go_at_call 182;refine Sb (hc _) fun w1 hb1=>?_;have HX:=Zab (HX.out.later hb1);obtain⟨⟨q0,q1,q2,q3,q4,q5⟩,_⟩:=HX.out;clear hb1)|(go_at_call 76;refine Sb (f1 _) fun w2 hb2=>?_;have HX:=Zab (HX.out.later hb2);obtain⟨⟨q0,q1,q2,q3,q4,q5⟩,_⟩:=HX.out;clear hb2));go_ret;exact⟨by rw[HE.out];rfl,HX.out.2⟩
   · have HE:Hid (gmE L H N P M R s=0):=hE;clear hE
     go_enter func241,ntmps241
     go_wp2_with (first|(go_at_call 182;refine Sb (hc _) fun w1 hb1=>?_;have HX:=Zab (HX.out.later hb1);obtain⟨⟨q0,q1,q2,q3,q4,q5⟩,_⟩:=HX.out;clear hb1)|(go_at_call 76;refine Sb (f1 _) fun w2 hb2=>?_;have HX:=Zab (HX.out.later hb2);obtain⟨⟨q0,q1,q2,q3,q4,q5⟩,_⟩:=HX.out;clear hb2));go_ret;exact⟨by rw[HE.out];rfl,HX.out.2⟩
 · have hE:gmE L H N P M R s=grE L H N P M R:=by unfold gmE;rw[if_neg he]
   rw[hE];rw[Zbg he] at hc⊢;clear hE;generalize grE L H N P M R=x at *;clear he
   go_enter func241,ntmps241
   go_wp2_with (go_at_call 182;refine Sb (hc _) fun w1 hb1=>?_;have HX:=Zab (HX.out.later hb1);obtain⟨⟨q0,q1,q2,q3,q4,q5⟩,_⟩:=HX.out;clear hb1);go_ret;exact⟨rfl,HX.out.2⟩
def heB(c s n:Int):Bool:=betw c 0 3&&betw n 1 4&&betw s 0 n
def heE(c s n:Int):Int:=if heB c s n then 0 else 1
theorem heB_true{c s n:Int}(h:heB c s n=true):(0≤c∧c≤3)∧(1≤n∧n≤4)∧0≤s∧s≤n:=by
 simp only[heB,Bool.and_eq_true] at h;exact⟨Zas h.1.1,Zas h.1.2,Zas h.2⟩
theorem heE_zero{c s n:Int}(h:heE c s n=0):heB c s n=true:=by
 unfold heE at h;split at h
 · assumption
 · omega
def lawI(c s n:Int):Int:=if s=0 then 3 else if c<2 then 2 else if s+2≤n then 2 else if s<n then 1 else 0
def mxL(a b:Int):Int:=if a<b then b else a
theorem lwrun_max2(ts:Array TypeId)(t:TypeId)(p q:Int)(w:World):(Builtin.max_ ts t #[Vi p,Vi q]).run prog w=.ok (Vi (mxL p q)) w:=by
 unfold mxL
 by_cases h:p<q
 · rw[if_pos h];simp[Builtin.max_,Builtin.max2,h]
 · rw[if_neg h];simp[Builtin.max_,Builtin.max2,h]
theorem lawCheck_any(c s n:Int)(w:World):
 Calls prog 162 #[.agg #[Vi c,Vi s,Vi n]] w fun e w'=>e=.returned (errV (heE c s n))∧Below w.heap.size w w':=by
 have f1:=Zbc c 0 3;have f2:=Zbc n 1 4;have f3:=Zbc s 0 n
 unfold heE heB
 generalize betw c 0 3=x1 at *;generalize betw n 1 4=x2 at *;generalize betw s 0 n=x3 at*
 rcases(show x1=false∨(x1=true∧x2=false)∨(x1=true∧x2=true∧x3=false)∨(x1=true∧x2=true∧x3=true) by cases x1<;>cases x2<;>cases x3<;>simp) with rfl|⟨rfl,rfl⟩|⟨rfl,rfl,rfl⟩|⟨rfl,rfl,rfl⟩
 all_goals
  go_enter func162,ntmps162
  go_wp2_with (first|((first|go_at_call_of 76 (Vi s)|go_at_call_of 76 (Value.int .i64 s));refine(f3 _).mono ?_;rintro e w' ⟨rfl,rfl⟩)|((first|go_at_call_of 76 (Vi n)|go_at_call_of 76 (Value.int .i64 n));refine(f2 _).mono ?_;rintro e w' ⟨rfl,rfl⟩)|((first|go_at_call_of 76 (Vi c)|go_at_call_of 76 (Value.int .i64 c));refine(f1 _).mono ?_;rintro e w' ⟨rfl,rfl⟩));go_ret;exact⟨rfl,by repeat (first|exact Zaa _ _|refine Zac ?_ (Zaa _ _))⟩
theorem worse_any(a b:Int)(w:World):
 Calls prog 163 #[Vi a,Vi b] w fun e w'=>e=.returned (Vi (mxL a b))∧w'=w:=by
 have hx:=fun ts t p q w=>lwrun_max2 ts t p q w
 go_enter func163,ntmps163
 go_wp2;go_ret;exact⟨rfl,rfl⟩
theorem asked_any(c s n:Int)(h:heB c s n=true)(w:World):
 Calls prog 164 #[.agg #[Vi c,Vi s,Vi n]] w fun e w'=>e=.returned (Vi (lawI c s n))∧Below w.heap.size w w':=by
 obtain⟨⟨c0,c1⟩,⟨n0,n1⟩,s0,s1⟩:=heB_true h
 unfold lawI
 by_cases h1:s=0
 · rw[if_pos h1];subst h1;clear h
   go_enter func164,ntmps164
   go_wp2;go_ret;exact⟨rfl,Zaa _ _⟩
 · rw[if_neg h1]
   have h1':(s==0)=false:=by simpa using h1
   by_cases h2:c<2
   · rw[if_pos h2];clear h
     go_enter func164,ntmps164
     go_wp2;go_ret;exact⟨rfl,Zaa _ _⟩
   · rw[if_neg h2]
     by_cases h3:s+2≤n
     · rw[if_pos h3];clear h
       have h4:1<n-s:=by omega
       go_enter func164,ntmps164
       go_wp2;go_ret;exact⟨rfl,Zaa _ _⟩
     · rw[if_neg h3]
       have h4:¬1<n-s:=by omega
       by_cases h5:s<n
       · rw[if_pos h5];clear h
         have h6:(n-s==1)=true:=by simp;omega
         go_enter func164,ntmps164
         go_wp2;go_ret;exact⟨rfl,Zaa _ _⟩
       · rw[if_neg h5];clear h
         have h6:(n-s==1)=false:=by simp;omega
         go_enter func164,ntmps164
         go_wp2;go_ret;exact⟨rfl,Zaa _ _⟩
theorem lawOf_any(c s n:Int)(h:heB c s n=true)(w:World):
 Calls prog 53 #[.agg #[Vi c,Vi s,Vi n]] w fun e w'=>e=.returned (Vi (lawI c s n))∧Below w.heap.size w w':=by
 obtain⟨⟨c0,c1⟩,⟨n0,n1⟩,s0,s1⟩:=heB_true h
 unfold lawI
 by_cases h1:s=0
 · rw[if_pos h1];subst h1;clear h
   go_enter func53,ntmps53
   go_wp2;go_ret;exact⟨rfl,Zaa _ _⟩
 · rw[if_neg h1]
   have h1':(s==0)=false:=by simpa using h1
   by_cases h2:c<2
   · rw[if_pos h2];clear h
     go_enter func53,ntmps53
     go_wp2;go_ret;exact⟨rfl,Zaa _ _⟩
   · rw[if_neg h2]
     by_cases h3:s+2≤n
     · rw[if_pos h3];clear h
       go_enter func53,ntmps53
       go_wp2;go_ret;exact⟨rfl,Zaa _ _⟩
     · rw[if_neg h3]
       by_cases h5:s<n
       · rw[if_pos h5];clear h
         go_enter func53,ntmps53
         go_wp2;go_ret;exact⟨rfl,Zaa _ _⟩
       · rw[if_neg h5];clear h
         go_enter func53,ntmps53
         go_wp2;go_ret;exact⟨rfl,Zaa _ _⟩
theorem Zgv(x:Int)(w:World):
 Calls prog 165 #[Vi x] w fun e w'=>e=.returned (.bool (betw x 0 3))∧Below w.heap.size w w':=by
 go_enter func165,ntmps165
 go_wp2_with (go_at_call 76;refine(Zbc _ _ _ _).mono ?_;rintro e w' ⟨rfl,rfl⟩);go_ret;exact⟨rfl,Zaa _ _⟩
def neE(a b:Int):Int:=if betw a 0 3&&betw b 0 3 then 0 else 1
def neI(a b:Int)(g:Bool):Int:=if betw a 0 3&&betw b 0 3 then(if g then b else mxL a b) else 0
theorem next_any(a b:Int)(g:Bool)(w:World):
 Calls prog 111 #[Vi a,Vi b,.bool g] w fun e w'=>e=.returned (.tuple #[Vi (neI a b g),errV (neE a b)])∧Below w.heap.size w w':=by
 have f1:=Zgv a;have f2:=Zgv b;have f3:=worse_any a b
 unfold neE neI
 generalize betw a 0 3=x1 at *;generalize betw b 0 3=x2 at *;generalize mxL a b=m at*
 cases x1
 · simp only[Bool.false_and,Bool.false_eq_true,if_false]
   go_enter func111,ntmps111
   go_wp2_with (go_at_call 165;refine Sb (f1 _) fun w1 hb1=>?_);go_ret2;exact⟨rfl,hb1⟩
 · cases x2
   · simp only[Bool.and_false,Bool.false_eq_true,if_false]
     go_enter func111,ntmps111
     go_wp2_with (first|((first|go_at_call_of 165 (Vi b)|go_at_call_of 165 (Value.int .i64 b));refine Sb (f2 _) fun w2 hb2=>?_)|((first|go_at_call_of 165 (Vi a)|go_at_call_of 165 (Value.int .i64 a));refine Sb (f1 _) fun w1 hb1=>?_));go_ret2;exact⟨rfl,Zac hb1 hb2⟩
   · simp only[Bool.and_self,if_true]
     cases g
     · simp only[Bool.false_eq_true,if_false]
       go_enter func111,ntmps111
       go_wp2_with (first|((first|go_at_call_of 165 (Vi b)|go_at_call_of 165 (Value.int .i64 b));refine Sb (f2 _) fun w2 hb2=>?_)|((first|go_at_call_of 165 (Vi a)|go_at_call_of 165 (Value.int .i64 a));refine Sb (f1 _) fun w1 hb1=>?_)|(go_at_call 163;refine(f3 _).mono ?_;rintro e w' ⟨rfl,rfl⟩));go_ret2;exact⟨rfl,Zac hb1 hb2⟩
     · simp only[if_true]
       go_enter func111,ntmps111
       go_wp2_with (first|((first|go_at_call_of 165 (Vi b)|go_at_call_of 165 (Value.int .i64 b));refine Sb (f2 _) fun w2 hb2=>?_)|((first|go_at_call_of 165 (Vi a)|go_at_call_of 165 (Value.int .i64 a));refine Sb (f1 _) fun w1 hb1=>?_));go_ret2;exact⟨rfl,Zac hb1 hb2⟩
theorem Zig(x:Int)(w:World):
 Calls prog 216 #[Vi x] w fun e w'=>e=.returned (.bool (betw x 0 1))∧w'=w:=by
 by_cases h0:x=0
 · subst h0
   go_enter func216,ntmps216
   go_wp2;go_ret;exact⟨rfl,rfl⟩
 · have h0':(x==0)=false:=by simpa using h0
   have e:betw x 0 1=(x==1):=by
    unfold betw
    by_cases h1:x=1
    · subst h1;rfl
    · have h2:(x==1)=false:=by simpa using h1
      rw[h2];simp;omega
   rw[e]
   go_enter func216,ntmps216
   go_wp2;go_ret;exact⟨by simp,rfl⟩
theorem Zit(x:Int)(h1:-4611686018427387904≤x)(h2:x≤4611686018427387904)(w:World):Calls prog 195 #[Vi x] w fun e w'=>e=.returned (Vi (max x (-x)))∧w'=w:=by
 by_cases h:x<0
 · have e:max x (-x)=-x:=by omega
   rw[e]
   have g:x< -x:=by omega
   go_enter func195,ntmps195
   go_wp2;go_ret;exact⟨rfl,rfl⟩
 · have e:max x (-x)=x:=by omega
   rw[e]
   have g:¬x< -x:=by omega
   go_enter func195,ntmps195
   go_wp2;go_ret;exact⟨rfl,rfl⟩
theorem refAway_pos(n d:Int)(h0:0≤n)(h1:n≤4611686014132420609)(d0:0<d)(d1:d≤2147483647)(w:World):
 Calls prog 234 #[Vi n,Vi d] w fun e w'=>e=.returned (Vi (Zgg n d))∧w'=w:=by
 have e:Zgg n d=(2*n+d)/(2*d):=by unfold Zgg;rw[if_neg (by omega)]
 rw[e];clear e
 have hn:¬n<0:=by omega
 go_enter func234,ntmps234
 go_wp2;go_ret;exact⟨rfl,rfl⟩
theorem fnearest_any(n d:Int)(h0:-4611686014132420609≤n)(h1:n≤4611686014132420609)(d0:-2147483647≤d)(d1:d≤2147483647)(hd:d≠0)(w:World):
 Calls prog 138 #[Vi n,Vi d] w fun e w'=>e=.returned (Vi (Zfs n d))∧w'=w.drew:=by
 have q:=tdiv_bd n d 4611686014132420609 h0 h1;have r:=tmod_bd n d 2147483647 hd d0 d1;obtain⟨q0,q1⟩:=q;obtain⟨r0,r1⟩:=r
 have hd':(d==0)=false:=by simpa using hd
 by_cases c1:2*max (n.tmod d) (-(n.tmod d))<max d (-d)
 · have e:Zfs n d=n.tdiv d:=by unfold Zfs;rw[if_pos c1]
   rw[e];clear e
   go_enter func138,ntmps138
   go_wp2
   go_region
   go_wp2_with (go_at_call 195;refine(Zit _ (by omega) (by omega) _).mono ?_;rintro e w' ⟨rfl,rfl⟩);go_ret;exact⟨rfl,rfl⟩
 · by_cases c2:n<0
   · by_cases c3:d<0
     · have e:Zfs n d=n.tdiv d+1:=by unfold Zfs;rw[if_neg c1,decide_eq_true c2,decide_eq_true c3];rfl
       rw[e];clear e
       go_enter func138,ntmps138
       go_wp2
       go_region
       go_wp2_with (go_at_call 195;refine(Zit _ (by omega) (by omega) _).mono ?_;rintro e w' ⟨rfl,rfl⟩);go_ret;exact⟨rfl,rfl⟩
     · have e:Zfs n d=n.tdiv d-1:=by unfold Zfs;rw[if_neg c1,decide_eq_true c2,decide_eq_false c3];rfl
       rw[e];clear e;have c3':decide (d<0)=false:=decide_eq_false c3
       go_enter func138,ntmps138
       go_wp2
       go_region
       go_wp2_with (go_at_call 195;refine(Zit _ (by omega) (by omega) _).mono ?_;rintro e w' ⟨rfl,rfl⟩);go_ret;exact⟨rfl,rfl⟩
   · by_cases c3:d<0
     · have e:Zfs n d=n.tdiv d-1:=by unfold Zfs;rw[if_neg c1,decide_eq_false c2,decide_eq_true c3];rfl
       rw[e];clear e;have c2':decide (n<0)=false:=decide_eq_false c2
       have hn:0≤n:=by omega
       rw[Int.tmod_eq_emod_of_nonneg hn] at c1 r0 r1
       go_enter func138,ntmps138
       go_wp2
       go_region
       go_wp2_with (go_at_call 195;refine(Zit _ (by omega) (by omega) _).mono ?_;rintro e w' ⟨rfl,rfl⟩);go_ret;exact⟨rfl,rfl⟩
     · have e:Zfs n d=n.tdiv d+1:=by unfold Zfs;rw[if_neg c1,decide_eq_false c2,decide_eq_false c3];rfl
       rw[e];clear e;have c2':decide (n<0)=false:=decide_eq_false c2;have c3':decide (d<0)=false:=decide_eq_false c3
       have hn:0≤n:=by omega
       rw[Int.tmod_eq_emod_of_nonneg hn] at c1 r0 r1;rw[Int.tdiv_eq_ediv_of_nonneg hn] at q0 q1⊢
       go_enter func138,ntmps138
       go_wp2
       go_region
       go_wp2_with (go_at_call 195;refine(Zit _ (by omega) (by omega) _).mono ?_;rintro e w' ⟨rfl,rfl⟩);go_ret;exact⟨rfl,rfl⟩
theorem refAway_any(n d:Int)(h0:-4611686014132420609≤n)(h1:n≤4611686014132420609)(d0:0<d)(d1:d≤2147483647)(w:World):
 Calls prog 234 #[Vi n,Vi d] w fun e w'=>e=.returned (Vi (Zgg n d))∧w'=w:=by
 by_cases hn:n<0
 · have bd:=awayI_bd (n:=-n) (d:=d) (B:=4611686014132420609) d0 (by omega) (by omega);obtain⟨b0,b1⟩:=bd
   have e:Zgg n d=-Zgg (-n) d:=by rw[awayI_neg n d d0];omega
   rw[e];clear e
   go_enter func234,ntmps234
   go_wp2_with (go_at_call 234;refine(refAway_pos _ _ (by omega) (by omega) d0 d1 _).mono ?_;rintro e w' ⟨rfl,rfl⟩);go_ret;exact⟨rfl,rfl⟩
 · exact refAway_pos n d (by omega) h1 d0 d1 w
theorem fixMul_any(a b:Int)(w:World):Calls prog 85 #[Vi a,Vi b] w fun e w'=>e=.returned (Vi (mulI a b))∧w'=w.drew:=by
 have m:=mul_bd (ofI_lo a) (ofI_hi a) (ofI_lo b) (ofI_hi b);obtain⟨m0,m1⟩:=m;rw[←mul_near]
 go_enter func85,ntmps85
 go_wp2_with (first
  |(go_at_call 137;refine(fixOf_any _ _).mono ?_;rintro e w' ⟨rfl,rfl⟩)
  |(go_at_call 138;refine(fnearest_any _ _ (by omega) (by omega) (by omega) (by omega) (by omega) _).mono ?_;rintro e w' ⟨rfl,rfl⟩))
 go_ret;exact⟨rfl,rfl⟩
theorem refMul_any(a b:Int)(w:World):Calls prog 198 #[Vi a,Vi b] w fun e w'=>e=.returned (Vi (mulI a b))∧w'=w:=by
 have m:=mul_bd (ofI_lo a) (ofI_hi a) (ofI_lo b) (ofI_hi b);obtain⟨m0,m1⟩:=m
 unfold mulI
 go_enter func198,ntmps198
 go_wp2_with (first
  |(go_at_call 233;refine(refOf_any _ _).mono ?_;rintro e w' ⟨rfl,rfl⟩)
  |(go_at_call 234;refine(refAway_any _ _ (by omega) (by omega) (by omega) (by omega) _).mono ?_;rintro e w' ⟨rfl,rfl⟩))
 go_ret;exact⟨rfl,rfl⟩
def Lst(w:World)(a:Option Addr)(l:List Int):Prop:=l=[]∨∃b off,a=some (Ad b off)∧∀k,k<l.length→w.cell? (Ad b (off+k))=some (Vi (at0 l k))
theorem Lst.later{w w':World}{a:Option Addr}{l:List Int}(h:Lst w a l)(hb:Below w.heap.size w w'):Lst w' a l:=by
 rcases h with h|⟨b,off,h,hc⟩
 · exact .inl h
 · exact .inr ⟨b,off,h,fun k hk=>cell_later hb (hc k hk)⟩
theorem Lst.at{w:World}{a:Option Addr}{l:List Int}(h:Lst w a l)(hn:l≠[]):∃b off,a=some (Ad b off)∧∀k,k<l.length→w.cell? (Ad b (off+k))=some (Vi (at0 l k)):=by
 rcases h with h|h
 · exact absurd h hn
 · exact h
theorem Zca{l:List Int}{k:Nat}(h:k<l.length):l≠[]:=by intro e;subst e;simp at h
theorem worth_any(a:Option Addr)(cap:Nat)(l:List Int)(w:World)(hm:l.length≤9223372036854775807)(hc:Lst w a l):
 Calls prog 197 #[.slice a l.length cap] w fun r w'=>r=.returned (Vi (Zbi l))∧w'=w:=by
 have HC:Hid (Lst w a l):=hc;clear hc
 go_enter func197,ntmps197
 go_wp2
 go_loop [3] (fun i=>∃k:Nat,k≤l.length∧i=Vi k∧Hid (Zbi l=Zbi (l.drop k))) (fun i=>l.length-(intOf i).toNat)
 case atStart=>exact⟨0,Nat.zero_le _,rfl,by show Zbi l=Zbi (l.drop 0);rw[List.drop_zero]⟩
 case round=>
  obtain⟨k,hk,rfl,hf⟩:=hrel
  by_cases hlt:k<l.length
  · obtain⟨b,off,rfl,hcs⟩:=HC.out.at (Zca hlt);have hcell:=hcs k hlt;clear hcs;have hs:=worth_step l k hlt;generalize at0 l k=z at hcell hs
    by_cases hz:Zba z=true
    · rw[if_pos hz] at hs;have HS:Hid (Zbi l=Zbi (l.drop (k+1))):=hf.out.trans hs;clear hs hf
      go_wp2_with (go_at_call 38;refine(Zgf _ _).mono ?_;rintro e w' ⟨rfl,rfl⟩)
      go_round
      case rel=>exact⟨k+1,by omega,by go_num,HS⟩
      case measure=>simp[intOf];omega
    · rw[if_neg hz] at hs;have HS:Hid (Zbi l=1):=hf.out.trans hs
      have hz':Zba z=false:=by simpa using hz
      clear hs hf hz
      go_wp2_with (go_at_call 38;refine(Zgf _ _).mono ?_;rintro e w' ⟨rfl,rfl⟩);go_ret;exact⟨by rw[HS.out];rfl,rfl⟩
  · go_wp2;go_ret
    have:k=l.length:=by omega
    subst this;exact⟨by rw[hf.out,List.drop_length];rfl,rfl⟩
def Zdg(l:List Int):Nat→Int
 |0=>-1
 |n+1=>if Zba (at0 l (l.length-(n+1))) then Zdg l n else((l.length-(n+1):Nat):Int)
theorem beyond_neg(l:List Int):∀n,n≤l.length→(0≤Zdg l n↔Zbi (l.drop (l.length-n))=1)
 |0,_=>by simp[Zdg,Zbi]
 |n+1,h=>by
  have hs:=worth_step l (l.length-(n+1)) (by omega)
  have e:l.length-(n+1)+1=l.length-n:=by omega
  rw[e] at hs;rw[hs];simp only[Zdg]
  split
  · rw[beyond_neg l n (by omega)]
  · simp
theorem index_any(a:Option Addr)(cap:Nat)(l:List Int)(w:World)(hm:l.length≤9223372036854775807)(hc:Lst w a l):
 Calls prog 283 #[.slice a l.length cap,.func (.func 266) #[] #[]] w fun r w'=>r=.returned (Vi (Zdg l l.length))∧w'=w:=by
 have HC:Hid (Lst w a l):=hc;clear hc
 go_enter func283,ntmps283
 go_wp2
 go_loop [8] (fun i=>∃k:Nat,k≤l.length∧i=Vi k∧Hid (Zdg l l.length=Zdg l (l.length-k))) (fun i=>l.length-(intOf i).toNat)
 case atStart=>exact⟨0,Nat.zero_le _,rfl,rfl⟩
 case round=>
  obtain⟨k,hk,rfl,hf⟩:=hrel
  by_cases hlt:k<l.length
  · obtain⟨b,off,rfl,hcs⟩:=HC.out.at (Zca hlt);have hcell:=hcs k hlt;clear hcs
    have hs:Zdg l (l.length-k)=if Zba (at0 l k) then Zdg l (l.length-(k+1)) else(k:Int):=by
     have e:l.length-k=(l.length-(k+1))+1:=by omega
     have e2:l.length-(l.length-(k+1)+1)=k:=by omega
     rw[e];simp only[Zdg,e2]
    generalize at0 l k=z at hcell hs
    by_cases hz:Zba z=true
    · rw[if_pos hz] at hs;have HS:Hid (Zdg l l.length=Zdg l (l.length-(k+1))):=hf.out.trans hs;clear hs hf
      go_wp2_with (go_at_call 266;refine(isBeyond_any _ _).mono ?_;rintro e w' ⟨rfl,rfl⟩)
      go_round
      case rel=>exact⟨k+1,by omega,by go_num,HS⟩
      case measure=>simp[intOf];omega
    · rw[if_neg hz] at hs;have HS:Hid (Zdg l l.length=k):=hf.out.trans hs
      have hz':Zba z=false:=by simpa using hz
      clear hs hf hz
      go_wp2_with (go_at_call 266;refine(isBeyond_any _ _).mono ?_;rintro e w' ⟨rfl,rfl⟩);go_ret;exact⟨by rw[HS.out];rfl,rfl⟩
  · go_wp2;go_ret
    have:k=l.length:=by omega
    subst this;exact⟨by rw[hf.out,Nat.sub_self];rfl,rfl⟩
theorem contains_any(a:Option Addr)(cap:Nat)(l:List Int)(w:World)(hm:l.length≤9223372036854775807)(hc:Lst w a l):
 Calls prog 265 #[.slice a l.length cap,.func (.func 266) #[] #[]] w fun r w'=>r=.returned (.bool (Zbi l==1))∧w'=w:=by
 have e:=beyond_neg l l.length (Nat.le_refl _);rw[Nat.sub_self,List.drop_zero] at e;have hi:=index_any a cap l w hm hc;generalize Zdg l l.length=n at e hi
 have e':(Zbi l==1)=decide (0≤n):=by
  by_cases h:0≤n
  · rw[decide_eq_true h];simpa using e.mp h
  · rw[decide_eq_false h];simpa using fun q=>h (e.mpr q)
 rw[e'];clear e e' hc
 go_enter func265,ntmps265
 go_wp2_with (go_at_call 283;refine hi.mono ?_;rintro e w' ⟨rfl,rfl⟩);go_ret;exact⟨rfl,rfl⟩
theorem Zha(a:Option Addr)(cap:Nat)(l:List Int)(w:World)(hm:l.length≤9223372036854775807)(hc:Lst w a l):
 Calls prog 249 #[.slice a l.length cap] w fun r w'=>r=.returned (errV (Zbi l))∧w'=w:=by
 have hi:=contains_any a cap l w hm hc;clear hc
 rcases Zfh l with h|h
 · rw[h] at hi⊢
   go_enter func249,ntmps249
   go_wp2_with (go_at_call 265;refine hi.mono ?_;rintro e w' ⟨rfl,rfl⟩);go_ret;exact⟨rfl,rfl⟩
 · rw[h] at hi⊢
   go_enter func249,ntmps249
   go_wp2_with (go_at_call 265;refine hi.mono ?_;rintro e w' ⟨rfl,rfl⟩);go_ret;exact⟨rfl,rfl⟩
end Go.Proofs.YtnfdfiholcelaaaGreatDoor
