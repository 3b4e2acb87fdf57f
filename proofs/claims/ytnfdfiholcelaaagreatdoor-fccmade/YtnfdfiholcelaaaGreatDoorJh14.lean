import Derived.Deep.WholeRow
import Derived.Deep.MidRow
import Derived.Test.YtnfdfiholcelaaaGreatDoorJh00
import Derived.Test.YtnfdfiholcelaaaGreatDoorJh04
import Derived.Test.YtnfdfiholcelaaaGreatDoorJh07
import Derived.Test.YtnfdfiholcelaaaGreatDoorJh11
import Derived.Test.YtnfdfiholcelaaaGreatDoorJh12
import Derived.Test.YtnfdfiholcelaaaGreatDoorJh13
set_option maxRecDepth 100000
set_option maxHeartbeats 20000000
namespace Go.Proofs.YtnfdfiholcelaaaGreatDoor
open Go.RowKit Plain Tryz
theorem Zgw(L H U B M:Int)(a z:Option Addr)(ca cz:Nat)(al zl:List Int)(hm:al.length≤9223372036854775807)(hn:zl.length≤9223372036854775807)(w:World)(ha:Lst w a al)(hz:Lst w z zl):
 Calls prog 88 #[.agg #[Vi L,Vi H,Vi U,Vi B,Vi M,.slice a al.length ca,.slice z zl.length cz]] w fun e w'=>e=.returned (Vi (ruE L H U B M al zl))∧Below w.heap.size w w':=by
 have HX:=Zab (newHR L H U B M a z ca cz al zl w ha hz)
 dsimp only at HX
 have hlm:∀u,(u.cell? (Ad w.heap.size 0)=some (Vi L)∧u.cell? (Ad w.heap.size 1)=some (Vi H)∧u.cell? (Ad w.heap.size 2)=some (Vi U)∧u.cell? (Ad w.heap.size 3)=some (Vi B)∧u.cell? (Ad w.heap.size 4)=some (Vi M)∧u.cell? (Ad w.heap.size 5)=some (.slice a al.length ca)∧u.cell? (Ad w.heap.size 6)=some (.slice z zl.length cz))∧Lst u a al∧Lst u z zl∧Below w.heap.size w u→Calls prog 140 #[.agg #[.slice a al.length ca,.slice z zl.length cz]] u fun r w'=>r=.returned (Vi (Zdw al zl))∧Below u.heap.size u w':=fun u h=>lineMay_any a z ca cz al zl u hm hn h.2.1 h.2.2.1;have h0E:=Zab (show r0E L H U B M al zl=Zap [if ruB L H U B M then 0 else 1,if H<L then 3 else 0,Zdw al zl] from rfl)
 have hw2:∀w,Calls prog 14 #[.bool (decide (H<L)),Vi 3] w fun r w'=>r=.returned (Vi (if H<L then 3 else 0))∧w'=w:=by
  intro w
  by_cases h:H<L
  · rw[decide_eq_true h,if_pos h];exact Zbo 3 w
  · rw[decide_eq_false h,if_neg h];exact Zbv 3 w
 have HZ:=Zab (rkE_zero L H U B M al zl);have HF:=Zab (show ruE L H U B M al zl=rkE L H U B M al zl zl.length from rfl);have HS:=Zab (rkE_step L H U B M al zl);have hy:∃y:Int,y=if H<L then 3 else 0:=⟨_,rfl⟩;obtain⟨y,hy⟩:=hy;rw[←hy] at hw2 h0E;clear hy ha hz;have f1:=Zaj L (-100000) 100000;have f2:=Zaj H (-100000) 100000;have f3:=Zaj U 0 1000;have f4:=Zaj B 0 65536;have f5:=Zaj M 1 4000
 unfold ruB at h0E
 generalize betw L (-100000) 100000=x1 at *;generalize betw H (-100000) 100000=x2 at *;generalize betw U 0 1000=x3 at *;generalize betw B 0 65536=x4 at *;generalize betw M 1 4000=x5 at*
 rcases(show x1=false∨(x1=true∧x2=false)∨(x1=true∧x2=true∧x3=false)∨(x1=true∧x2=true∧x3=true∧x4=false)∨(x1=true∧x2=true∧x3=true∧x4=true∧x5=false)∨(x1=true∧x2=true∧x3=true∧x4=true∧x5=true) by cases x1<;>cases x2<;>cases x3<;>cases x4<;>cases x5<;>simp) with rfl|⟨rfl,rfl⟩|⟨rfl,rfl,rfl⟩|⟨rfl,rfl,rfl,rfl⟩|⟨rfl,rfl,rfl,rfl,rfl⟩|⟨rfl,rfl,rfl,rfl,rfl⟩
 all_goals
  simp only[Bool.and_false,Bool.false_and,Bool.and_self,Bool.false_eq_true,if_false,if_true] at h0E;generalize Zdw al zl=E at *;generalize r0E L H U B M al zl=e0 at*
  go_enter func88,ntmps88
  go_upto_region 2 with(first
   |((first|go_at_call_of 38 (Vi L)|go_at_call_of 38 (Value.int .i64 L));refine Sm (f1 _) ?_)
   |((first|go_at_call_of 38 (Vi H)|go_at_call_of 38 (Value.int .i64 H));refine Sm (f2 _) ?_)
   |((first|go_at_call_of 38 (Vi U)|go_at_call_of 38 (Value.int .i64 U));refine Sm (f3 _) ?_)
   |((first|go_at_call_of 38 (Vi B)|go_at_call_of 38 (Value.int .i64 B));refine Sm (f4 _) ?_)
   |((first|go_at_call_of 38 (Vi M)|go_at_call_of 38 (Value.int .i64 M));refine Sm (f5 _) ?_))
  obtain⟨w0,hw0⟩:∃w0,w.alloc (.cells #[Vi L,Vi H,Vi U,Vi B,Vi M,.slice a al.length ca,.slice z zl.length cz] 107)=w0:=⟨_,rfl⟩;rw[hw0] at HX⊢;clear hw0;have S0:(w0.cell? (Ad w.heap.size 0)=some (Vi L)∧w0.cell? (Ad w.heap.size 1)=some (Vi H)∧w0.cell? (Ad w.heap.size 2)=some (Vi U)∧w0.cell? (Ad w.heap.size 3)=some (Vi B)∧w0.cell? (Ad w.heap.size 4)=some (Vi M)∧w0.cell? (Ad w.heap.size 5)=some (.slice a al.length ca)∧w0.cell? (Ad w.heap.size 6)=some (.slice z zl.length cz))∧Lst w0 a al∧Lst w0 z zl∧Below w.heap.size w w0:=HX.out
  go_region_held3 (fun u=>(u.cell? (Ad w.heap.size 0)=some (Vi L)∧u.cell? (Ad w.heap.size 1)=some (Vi H)∧u.cell? (Ad w.heap.size 2)=some (Vi U)∧u.cell? (Ad w.heap.size 3)=some (Vi B)∧u.cell? (Ad w.heap.size 4)=some (Vi M)∧u.cell? (Ad w.heap.size 5)=some (.slice a al.length ca)∧u.cell? (Ad w.heap.size 6)=some (.slice z zl.length cz))∧Lst u a al∧Lst u z zl∧Below w.heap.size w u)
   (first
    |(with_reducible assumption)
    |(with_reducible refine Zgj (Zaa _ _) ?_;with_reducible assumption)
    |(with_reducible apply Zgj;with_reducible assumption;with_reducible assumption)
    |(refine Zgj ?_ HX.out;exact(Below.refl _ _).drew))
   (first
    |((first|go_at_call_of 14 (Vi 3)|go_at_call_of 14 (Value.int .i64 3));refine(hw2 _).mono ?_;rintro e w' ⟨rfl,rfl⟩)
    |(go_at_call_of 14 (Value.bool true);refine(Zbo _ _).mono ?_;rintro e w' ⟨rfl,rfl⟩)
    |(go_at_call_of 14 (Value.bool false);refine(Zbv _ _).mono ?_;rintro e w' ⟨rfl,rfl⟩)
    |(go_at_call 140;refine(hlm _ ?_).mono ?_;(with_reducible assumption);rintro e w' ⟨rfl,hb⟩)
    |(go_at_call 13;refine(Zhn _ _ _ _ _).mono ?_;rintro e w' ⟨rfl,rfl⟩))
  all_goals
   rename_i hH
   have HX:=Zab hH;obtain⟨⟨_,_,_,_,_,_,q6⟩,_⟩:=hH;clear hlm;go_wp2_with fail
   go_loopw [4,5] (fun e i wr=>∃k:Nat,k≤zl.length∧i=Vi k∧e=Vi (rkE L H U B M al zl k)∧((wr.cell? (Ad w.heap.size 0)=some (Vi L)∧wr.cell? (Ad w.heap.size 1)=some (Vi H)∧wr.cell? (Ad w.heap.size 2)=some (Vi U)∧wr.cell? (Ad w.heap.size 3)=some (Vi B)∧wr.cell? (Ad w.heap.size 4)=some (Vi M)∧wr.cell? (Ad w.heap.size 5)=some (.slice a al.length ca)∧wr.cell? (Ad w.heap.size 6)=some (.slice z zl.length cz))∧Lst wr a al∧Lst wr z zl∧Below w.heap.size w wr)) (fun _ i _=>zl.length-(intOf i).toNat)
   case atStart=>exact⟨0,Nat.zero_le _,rfl,by rw[HZ.out,h0E.out],HX.out⟩
   case round=>
    clear HX q6 HZ h0E;obtain⟨k,hk,rfl,rfl,hX⟩:=hrel;have HX:=Zab hX;obtain⟨⟨_,_,_,_,_,_,q6⟩,_⟩:=hX
    by_cases hlt:k<zl.length
    · obtain⟨bz,oz,rfl,hcs⟩:=HX.out.2.2.1.at (Zca hlt);have hc:=hcs k hlt;have HT:=Zab (HS.out k);have hbt:=Zaj (at0 zl k) 0 65536
      have hwh:∀w,Calls prog 14 #[.bool (!betw (at0 zl k) 0 65536),Vi 1] w fun r w'=>r=.returned (Vi (if betw (at0 zl k) 0 65536 then 0 else 1))∧w'=w:=by
       intro w;cases betw (at0 zl k) 0 65536
       · exact Zbo 1 w
       · exact Zbv 1 w
      have j0:(0:Int)≤(k:Int):=by omega
      have j1:(k:Int)<(zl.length:Int):=by omega
      clear hcs;generalize (if betw (at0 zl k) 0 65536 then(0:Int) else 1)=t at *;generalize betw (at0 zl k) 0 65536=b at *;generalize at0 zl k=x at *;generalize rkE L H U B M al zl k=s at*
      go_wp2_with (first
       |(go_at_call 38;refine Sm (hbt _) ?_)
       |(go_at_call 14;refine Sm (hwh _) ?_)
       |(go_at_call 13;refine Sm (Zcm _ _ _ _) ?_))
      go_roundw
      case rel=>exact⟨k+1,by omega,by go_num,by rw[HT.out],Zgj (Zaa _ _) HX.out⟩
      case measure=>simp[intOf];omega
    · have e:k=zl.length:=by omega
      subst e;go_wp2_with fail;go_ret;exact⟨by rw[HF.out];rfl,HX.out.2.2.2⟩
theorem Zgx{s t:Int}(s0:2≤s)(s1:s≤4)(t0:1≤t)(t1:t≤1000):1≤(s-1)*t∧(s-1)*t≤3000:=by
 rcases(show s=2∨s=3∨s=4 by omega) with rfl|rfl|rfl<;>omega
theorem Zev(a0 a1 a2 a3 a4 a5 a6 a7 a8 a9 a10 a11 a14:Int)(p q:Option Addr)(n m cn cm:Nat)(w:World):
 Calls prog 104 #[.agg #[Vi a0,Vi a1,Vi a2,Vi a3,Vi a4,Vi a5,Vi a6,Vi a7,Vi a8,Vi a9,Vi a10,Vi a11,.slice p n cn,.slice q m cm,Vi a14]] w fun e w'=>e=.returned (.agg #[Vi a8,Vi a9])∧Below w.heap.size w w':=by
 go_enter func104,ntmps104
 go_wp2;exact bodyPost_ret (v:=.agg #[Vi a8,Vi a9]) (by simp[results,results104,go_sem]) rfl ⟨rfl,Zac (Zaa _ _) (Zaa _ _)⟩
theorem Zdx(a0 a1 a2 a3 a4 a5 a6 a7 a8 a9 a10 a11 a14:Int)(p q:Option Addr)(n m cn cm:Nat)(w:World):
 Calls prog 49 #[.agg #[Vi a0,Vi a1,Vi a2,Vi a3,Vi a4,Vi a5,Vi a6,Vi a7,Vi a8,Vi a9,Vi a10,Vi a11,.slice p n cn,.slice q m cm,Vi a14]] w fun e w'=>e=.returned (.agg #[Vi a8,Vi a9])∧Below w.heap.size w w':=by
 go_enter func49,ntmps49
 go_wp2;exact bodyPost_ret (v:=.agg #[Vi a8,Vi a9]) (by simp[results,results49,go_sem]) rfl ⟨rfl,Zac (Zaa _ _) (Zaa _ _)⟩
theorem Zed(a0 a1 a2 a3 a4 a5 a6 a7 a8 a9 a10 a11 a14:Int)(p q:Option Addr)(n m cn cm:Nat)(w:World):
 Calls prog 106 #[.agg #[Vi a0,Vi a1,Vi a2,Vi a3,Vi a4,Vi a5,Vi a6,Vi a7,Vi a8,Vi a9,Vi a10,Vi a11,.slice p n cn,.slice q m cm,Vi a14]] w fun e w'=>e=.returned (.agg #[Vi a5,Vi a6,Vi a7,Vi a10])∧Below w.heap.size w w':=by
 go_enter func106,ntmps106
 go_wp2;exact bodyPost_ret (v:=.agg #[Vi a5,Vi a6,Vi a7,Vi a10]) (by simp[results,results106,go_sem]) rfl ⟨rfl,Zac (Zaa _ _) (Zaa _ _)⟩
theorem Zbq(a0 a1 a2 a3 a4 a5 a6 a7 a8 a9 a10 a11 a14:Int)(p q:Option Addr)(n m cn cm:Nat)(w:World):
 Calls prog 46 #[.agg #[Vi a0,Vi a1,Vi a2,Vi a3,Vi a4,Vi a5,Vi a6,Vi a7,Vi a8,Vi a9,Vi a10,Vi a11,.slice p n cn,.slice q m cm,Vi a14]] w fun e w'=>e=.returned (.agg #[Vi a5,Vi a6,Vi a7,Vi a10])∧Below w.heap.size w w':=by
 go_enter func46,ntmps46
 go_wp2;exact bodyPost_ret (v:=.agg #[Vi a5,Vi a6,Vi a7,Vi a10]) (by simp[results,results46,go_sem]) rfl ⟨rfl,Zac (Zaa _ _) (Zaa _ _)⟩
theorem Zdd(a0 a1 a2 a3 a4 a5 a6 a7 a8 a9 a10 a11 a14:Int)(p q:Option Addr)(n m cn cm:Nat)(h4:2≤a4∧a4≤4)(h5:1≤a5∧a5≤1000)(h3:0≤a3∧a3≤1000)(h7:0≤a7∧a7≤1000)(h6:1≤a6∧a6≤1000)(w:World):
 Calls prog 170 #[.agg #[Vi a0,Vi a1,Vi a2,Vi a3,Vi a4,Vi a5,Vi a6,Vi a7,Vi a8,Vi a9,Vi a10,Vi a11,.slice p n cn,.slice q m cm,Vi a14]] w fun e w'=>e=.returned (.agg #[Vi a0,Vi a1,Vi a2,Vi (a3+a7),Vi ((a4-1)*a5),Vi ((a4-1)*a6)])∧Below w.heap.size w w':=by
 obtain⟨x4,y4⟩:=h4;obtain⟨b50,b51⟩:=Zgx x4 y4 h5.1 h5.2;have v5:=Wr ((a4-1)*a5)
 have v5':IntKind.i64.wrap (a5*(a4-1))=(a4-1)*a5:=by rw[Int.mul_comm];exact v5
 obtain⟨b60,b61⟩:=Zgx x4 y4 h6.1 h6.2;obtain⟨x3,y3⟩:=h3;obtain⟨x7,y7⟩:=h7;have v6:=Wr ((a4-1)*a6)
 have v6':IntKind.i64.wrap (a6*(a4-1))=(a4-1)*a6:=by rw[Int.mul_comm];exact v6
 go_enter func170,ntmps170
 go_wp2;exact bodyPost_ret (v:=.agg #[Vi a0,Vi a1,Vi a2,Vi (a3+a7),Vi ((a4-1)*a5),Vi ((a4-1)*a6)]) (by simp[results,results170,go_sem]) rfl ⟨rfl,Zac (Zaa _ _) (Zaa _ _)⟩
theorem Zdv(a0 a1 a2 a3 a4 a5 a6 a7 a8 a9 a10 a11 a14:Int)(p q:Option Addr)(n m cn cm:Nat)(h4:2≤a4∧a4≤4)(h5:1≤a5∧a5≤1000)(h3:0≤a3∧a3≤1000)(h7:0≤a7∧a7≤1000)(h6:1≤a6∧a6≤1000)(w:World):
 Calls prog 40 #[.agg #[Vi a0,Vi a1,Vi a2,Vi a3,Vi a4,Vi a5,Vi a6,Vi a7,Vi a8,Vi a9,Vi a10,Vi a11,.slice p n cn,.slice q m cm,Vi a14]] w fun e w'=>e=.returned (.agg #[Vi a0,Vi a1,Vi a2,Vi (a3+a7),Vi ((a4-1)*a5),Vi ((a4-1)*a6)])∧Below w.heap.size w w':=by
 obtain⟨x4,y4⟩:=h4;obtain⟨b50,b51⟩:=Zgx x4 y4 h5.1 h5.2;have v5:=Wr ((a4-1)*a5)
 have v5':IntKind.i64.wrap (a5*(a4-1))=(a4-1)*a5:=by rw[Int.mul_comm];exact v5
 obtain⟨b60,b61⟩:=Zgx x4 y4 h6.1 h6.2;obtain⟨x3,y3⟩:=h3;obtain⟨x7,y7⟩:=h7;have v6:=Wr ((a4-1)*a6)
 have v6':IntKind.i64.wrap (a6*(a4-1))=(a4-1)*a6:=by rw[Int.mul_comm];exact v6
 go_enter func40,ntmps40
 go_wp2;exact bodyPost_ret (v:=.agg #[Vi a0,Vi a1,Vi a2,Vi (a3+a7),Vi ((a4-1)*a5),Vi ((a4-1)*a6)]) (by simp[results,results40,go_sem]) rfl ⟨rfl,Zac (Zaa _ _) (Zaa _ _)⟩
theorem Zbu(a0 a1 a2 a3 a4 a5 a6 a7 a8 a9 a10 a11 a14:Int)(p q:Option Addr)(n m cn cm:Nat)(h4:2≤a4∧a4≤4)(h5:1≤a5∧a5≤1000)(w:World):
 Calls prog 44 #[.agg #[Vi a0,Vi a1,Vi a2,Vi a3,Vi a4,Vi a5,Vi a6,Vi a7,Vi a8,Vi a9,Vi a10,Vi a11,.slice p n cn,.slice q m cm,Vi a14]] w fun e w'=>e=.returned (.agg #[Vi a0,Vi a1,Vi a11,Vi a14,Vi ((a4-1)*a5),.slice p n cn,.slice q m cm])∧Below w.heap.size w w':=by
 obtain⟨x4,y4⟩:=h4;obtain⟨b50,b51⟩:=Zgx x4 y4 h5.1 h5.2;have v5:=Wr ((a4-1)*a5)
 have v5':IntKind.i64.wrap (a5*(a4-1))=(a4-1)*a5:=by rw[Int.mul_comm];exact v5
 go_enter func44,ntmps44
 go_wp2;exact bodyPost_ret (v:=.agg #[Vi a0,Vi a1,Vi a11,Vi a14,Vi ((a4-1)*a5),.slice p n cn,.slice q m cm]) (by simp[results,results44,go_sem]) rfl ⟨rfl,Zac (Zaa _ _) (Zaa _ _)⟩
def Room7(w u:World):Prop:=((u.cell? (Ad (w.heap.size+1) 0)=some (Vi 0)∧u.frozen? (Ad (w.heap.size+1) 0)=false)∧(u.cell? (Ad (w.heap.size+1) 1)=some (Vi 0)∧u.frozen? (Ad (w.heap.size+1) 1)=false)∧(u.cell? (Ad (w.heap.size+1) 2)=some (Vi 0)∧u.frozen? (Ad (w.heap.size+1) 2)=false)∧(u.cell? (Ad (w.heap.size+1) 3)=some (Vi 0)∧u.frozen? (Ad (w.heap.size+1) 3)=false)∧(u.cell? (Ad (w.heap.size+1) 4)=some (Vi 0)∧u.frozen? (Ad (w.heap.size+1) 4)=false)∧(u.cell? (Ad (w.heap.size+1) 5)=some (.slice none 0 0)∧u.frozen? (Ad (w.heap.size+1) 5)=false)∧(u.cell? (Ad (w.heap.size+1) 6)=some (.slice none 0 0)∧u.frozen? (Ad (w.heap.size+1) 6)=false))∧w.heap.size+1<u.heap.size
theorem Room7.later{w u u':World}(h:Room7 w u)(hb:Below u.heap.size u u'):Room7 w u':=by
 obtain⟨⟨⟨a0,b0⟩,⟨a1,b1⟩,⟨a2,b2⟩,⟨a3,b3⟩,⟨a4,b4⟩,⟨a5,b5⟩,a6,b6⟩,hl⟩:=h;have f:∀j,u'.frozen? (Ad (w.heap.size+1) j)=u.frozen? (Ad (w.heap.size+1) j):=fun j=>hb.frozen (p:=⟨w.heap.size+1,j,none⟩) hl;exact⟨⟨⟨cell_later hb a0,(f 0).trans b0⟩,⟨cell_later hb a1,(f 1).trans b1⟩,⟨cell_later hb a2,(f 2).trans b2⟩,⟨cell_later hb a3,(f 3).trans b3⟩,⟨cell_later hb a4,(f 4).trans b4⟩,⟨cell_later hb a5,(f 5).trans b5⟩,cell_later hb a6,(f 6).trans b6⟩,Nat.lt_of_lt_of_le hl hb.size⟩
def AxB(u:World)(B:Nat)(a0 a1 a2 a3 a4 a5 a6 a7 a8 a9 a10 a11 a14:Int)(p q:Option Addr)(n m cn cm:Nat):Prop:=(u.cell? (Ad B 0)=some (Vi a0)∧u.cell? (Ad B 1)=some (Vi a1)∧u.cell? (Ad B 2)=some (Vi a2)∧u.cell? (Ad B 3)=some (Vi a3)∧u.cell? (Ad B 4)=some (Vi a4)∧u.cell? (Ad B 5)=some (Vi a5)∧u.cell? (Ad B 6)=some (Vi a6)∧u.cell? (Ad B 7)=some (Vi a7)∧u.cell? (Ad B 8)=some (Vi a8)∧u.cell? (Ad B 9)=some (Vi a9)∧u.cell? (Ad B 10)=some (Vi a10)∧u.cell? (Ad B 11)=some (Vi a11)∧u.cell? (Ad B 12)=some (.slice p n cn)∧u.cell? (Ad B 13)=some (.slice q m cm)∧u.cell? (Ad B 14)=some (Vi a14))
theorem AxB.later{u u':World}{B:Nat}{a0 a1 a2 a3 a4 a5 a6 a7 a8 a9 a10 a11 a14:Int}{p q:Option Addr}{n m cn cm:Nat}(h:AxB u B a0 a1 a2 a3 a4 a5 a6 a7 a8 a9 a10 a11 a14 p q n m cn cm)(hb:Below u.heap.size u u'):AxB u' B a0 a1 a2 a3 a4 a5 a6 a7 a8 a9 a10 a11 a14 p q n m cn cm:=by
 obtain⟨c0,c1,c2,c3,c4,c5,c6,c7,c8,c9,c10,c11,c12,c13,c14⟩:=h;exact⟨cell_later hb c0,cell_later hb c1,cell_later hb c2,cell_later hb c3,cell_later hb c4,cell_later hb c5,cell_later hb c6,cell_later hb c7,cell_later hb c8,cell_later hb c9,cell_later hb c10,cell_later hb c11,cell_later hb c12,cell_later hb c13,cell_later hb c14⟩
theorem AxB.new(w:World)(a0 a1 a2 a3 a4 a5 a6 a7 a8 a9 a10 a11 a14:Int)(p q:Option Addr)(n m cn cm:Nat):AxB (w.alloc (.cells #[Vi a0,Vi a1,Vi a2,Vi a3,Vi a4,Vi a5,Vi a6,Vi a7,Vi a8,Vi a9,Vi a10,Vi a11,.slice p n cn,.slice q m cm,Vi a14] 26)) w.heap.size a0 a1 a2 a3 a4 a5 a6 a7 a8 a9 a10 a11 a14 p q n m cn cm:=by
 refine⟨?_,?_,?_,?_,?_,?_,?_,?_,?_,?_,?_,?_,?_,?_,?_⟩<;>simp[go_sem]
theorem Zii{u:World}{B V j:Nat}{x:Value}{a0 a1 a2 a3 a4 a5 a6 a7 a8 a9 a10 a11 a14:Int}{p q:Option Addr}{n m cn cm:Nat}(hV:B≠V)(h:AxB u B a0 a1 a2 a3 a4 a5 a6 a7 a8 a9 a10 a11 a14 p q n m cn cm):AxB (u.setCell (Ad V j) x) B a0 a1 a2 a3 a4 a5 a6 a7 a8 a9 a10 a11 a14 p q n m cn cm:=by
 have f:∀i y,u.cell? (Ad B i)=some y→(u.setCell (Ad V j) x).cell? (Ad B i)=some y:=fun i y hy=>(World.cell?_setCell_other _ _ _ _ (fun e=>hV (congrArg Addr.block e).symm)).trans hy;obtain⟨c0,c1,c2,c3,c4,c5,c6,c7,c8,c9,c10,c11,c12,c13,c14⟩:=h;exact⟨f _ _ c0,f _ _ c1,f _ _ c2,f _ _ c3,f _ _ c4,f _ _ c5,f _ _ c6,f _ _ c7,f _ _ c8,f _ _ c9,f _ _ c10,f _ _ c11,f _ _ c12,f _ _ c13,f _ _ c14⟩
theorem axb_set7{u:World}{B V:Nat}{x0 x1 x2 x3 x4 x5 x6:Value}{a0 a1 a2 a3 a4 a5 a6 a7 a8 a9 a10 a11 a14:Int}{p q:Option Addr}{n m cn cm:Nat}(hV:B≠V)(h:(u.cell? (Ad B 0)=some (Vi a0)∧u.cell? (Ad B 1)=some (Vi a1)∧u.cell? (Ad B 2)=some (Vi a2)∧u.cell? (Ad B 3)=some (Vi a3)∧u.cell? (Ad B 4)=some (Vi a4)∧u.cell? (Ad B 5)=some (Vi a5)∧u.cell? (Ad B 6)=some (Vi a6)∧u.cell? (Ad B 7)=some (Vi a7)∧u.cell? (Ad B 8)=some (Vi a8)∧u.cell? (Ad B 9)=some (Vi a9)∧u.cell? (Ad B 10)=some (Vi a10)∧u.cell? (Ad B 11)=some (Vi a11)∧u.cell? (Ad B 12)=some (.slice p n cn)∧u.cell? (Ad B 13)=some (.slice q m cm)∧u.cell? (Ad B 14)=some (Vi a14))):((((((((u.setCell (Ad V 0) x0).setCell (Ad V 1) x1).setCell (Ad V 2) x2).setCell (Ad V 3) x3).setCell (Ad V 4) x4).setCell (Ad V 5) x5).setCell (Ad V 6) x6).cell? (Ad B 0)=some (Vi a0)∧(((((((u.setCell (Ad V 0) x0).setCell (Ad V 1) x1).setCell (Ad V 2) x2).setCell (Ad V 3) x3).setCell (Ad V 4) x4).setCell (Ad V 5) x5).setCell (Ad V 6) x6).cell? (Ad B 1)=some (Vi a1)∧(((((((u.setCell (Ad V 0) x0).setCell (Ad V 1) x1).setCell (Ad V 2) x2).setCell (Ad V 3) x3).setCell (Ad V 4) x4).setCell (Ad V 5) x5).setCell (Ad V 6) x6).cell? (Ad B 2)=some (Vi a2)∧(((((((u.setCell (Ad V 0) x0).setCell (Ad V 1) x1).setCell (Ad V 2) x2).setCell (Ad V 3) x3).setCell (Ad V 4) x4).setCell (Ad V 5) x5).setCell (Ad V 6) x6).cell? (Ad B 3)=some (Vi a3)∧(((((((u.setCell (Ad V 0) x0).setCell (Ad V 1) x1).setCell (Ad V 2) x2).setCell (Ad V 3) x3).setCell (Ad V 4) x4).setCell (Ad V 5) x5).setCell (Ad V 6) x6).cell? (Ad B 4)=some (Vi a4)∧(((((((u.setCell (Ad V 0) x0).setCell (Ad V 1) x1).setCell (Ad V 2) x2).setCell (Ad V 3) x3).setCell (Ad V 4) x4).setCell (Ad V 5) x5).setCell (Ad V 6) x6).cell? (Ad B 5)=some (Vi a5)∧(((((((u.setCell (Ad V 0) x0).setCell (Ad V 1) x1).setCell (Ad V 2) x2).setCell (Ad V 3) x3).setCell (Ad V 4) x4).setCell (Ad V 5) x5).setCell (Ad V 6) x6).cell? (Ad B 6)=some (Vi a6)∧(((((((u.setCell (Ad V 0) x0).setCell (Ad V 1) x1).setCell (Ad V 2) x2).setCell (Ad V 3) x3).setCell (Ad V 4) x4).setCell (Ad V 5) x5).setCell (Ad V 6) x6).cell? (Ad B 7)=some (Vi a7)∧(((((((u.setCell (Ad V 0) x0).setCell (Ad V 1) x1).setCell (Ad V 2) x2).setCell (Ad V 3) x3).setCell (Ad V 4) x4).setCell (Ad V 5) x5).setCell (Ad V 6) x6).cell? (Ad B 8)=some (Vi a8)∧(((((((u.setCell (Ad V 0) x0).setCell (Ad V 1) x1).setCell (Ad V 2) x2).setCell (Ad V 3) x3).setCell (Ad V 4) x4).setCell (Ad V 5) x5).setCell (Ad V 6) x6).cell? (Ad B 9)=some (Vi a9)∧(((((((u.setCell (Ad V 0) x0).setCell (Ad V 1) x1).setCell (Ad V 2) x2).setCell (Ad V 3) x3).setCell (Ad V 4) x4).setCell (Ad V 5) x5).setCell (Ad V 6) x6).cell? (Ad B 10)=some (Vi a10)∧(((((((u.setCell (Ad V 0) x0).setCell (Ad V 1) x1).setCell (Ad V 2) x2).setCell (Ad V 3) x3).setCell (Ad V 4) x4).setCell (Ad V 5) x5).setCell (Ad V 6) x6).cell? (Ad B 11)=some (Vi a11)∧(((((((u.setCell (Ad V 0) x0).setCell (Ad V 1) x1).setCell (Ad V 2) x2).setCell (Ad V 3) x3).setCell (Ad V 4) x4).setCell (Ad V 5) x5).setCell (Ad V 6) x6).cell? (Ad B 12)=some (.slice p n cn)∧(((((((u.setCell (Ad V 0) x0).setCell (Ad V 1) x1).setCell (Ad V 2) x2).setCell (Ad V 3) x3).setCell (Ad V 4) x4).setCell (Ad V 5) x5).setCell (Ad V 6) x6).cell? (Ad B 13)=some (.slice q m cm)∧(((((((u.setCell (Ad V 0) x0).setCell (Ad V 1) x1).setCell (Ad V 2) x2).setCell (Ad V 3) x3).setCell (Ad V 4) x4).setCell (Ad V 5) x5).setCell (Ad V 6) x6).cell? (Ad B 14)=some (Vi a14)):=
 Zii hV (Zii hV (Zii hV (Zii hV (Zii hV (Zii hV (Zii hV h))))))
theorem field_gmost(x0 x1 x2 x3 x4 x5:Value)(w:World):(Instr.field 99 (.agg #[x0,x1,x2,x3,x4,x5]) 4).run prog w=.ok x4 w:=by kernel_rfl
theorem Zew(a0 a1 a2 a3 a4 a5 a6 a7 a8 a9 a10 a11 a14:Int)(p q:Option Addr)(n m cn cm:Nat)(h4:2≤a4∧a4≤4)(h5:1≤a5∧a5≤1000)(h3:0≤a3∧a3≤1000)(h7:0≤a7∧a7≤1000)(h6:1≤a6∧a6≤1000)(w:World):
 Calls prog 168 #[.agg #[Vi a0,Vi a1,Vi a2,Vi a3,Vi a4,Vi a5,Vi a6,Vi a7,Vi a8,Vi a9,Vi a10,Vi a11,.slice p n cn,.slice q m cm,Vi a14]] w fun e w'=>e=.returned (.agg #[Vi a0,Vi a1,Vi a11,Vi a14,Vi ((a4-1)*a5),.slice p n cn,.slice q m cm])∧Below w.heap.size w w':=by
 have hgr:=fun u=>Zdd a0 a1 a2 a3 a4 a5 a6 a7 a8 a9 a10 a11 a14 p q n m cn cm h4 h5 h3 h7 h6 u;have hfm:=field_gmost;have HZ:=Zab ((AxB.new w a0 a1 a2 a3 a4 a5 a6 a7 a8 a9 a10 a11 a14 p q n m cn cm).later (Zaa _ (.cells #[Vi 0,Vi 0,Vi 0,Vi 0,Vi 0,.slice none 0 0,.slice none 0 0] 107)));have HR:Hid (Room7 w ((w.alloc (.cells #[Vi a0,Vi a1,Vi a2,Vi a3,Vi a4,Vi a5,Vi a6,Vi a7,Vi a8,Vi a9,Vi a10,Vi a11,.slice p n cn,.slice q m cm,Vi a14] 26)).alloc (.cells #[Vi 0,Vi 0,Vi 0,Vi 0,Vi 0,.slice none 0 0,.slice none 0 0] 107))):=Zab ⟨⟨⟨by simp[go_sem],by simp[go_sem]⟩,⟨by simp[go_sem],by simp[go_sem]⟩,⟨by simp[go_sem],by simp[go_sem]⟩,⟨by simp[go_sem],by simp[go_sem]⟩,⟨by simp[go_sem],by simp[go_sem]⟩,⟨by simp[go_sem],by simp[go_sem]⟩,by simp[go_sem],by simp[go_sem]⟩,by simp[go_sem]⟩;have HB:=Zab (Zac (Zaa w (.cells #[Vi a0,Vi a1,Vi a2,Vi a3,Vi a4,Vi a5,Vi a6,Vi a7,Vi a8,Vi a9,Vi a10,Vi a11,.slice p n cn,.slice q m cm,Vi a14] 26)) (Zaa _ (.cells #[Vi 0,Vi 0,Vi 0,Vi 0,Vi 0,.slice none 0 0,.slice none 0 0] 107)))
 go_enter func168,ntmps168
 go_upto_region 1 with fail;generalize ((w.alloc (.cells #[Vi a0,Vi a1,Vi a2,Vi a3,Vi a4,Vi a5,Vi a6,Vi a7,Vi a8,Vi a9,Vi a10,Vi a11,.slice p n cn,.slice q m cm,Vi a14] 26)).alloc (.cells #[Vi 0,Vi 0,Vi 0,Vi 0,Vi 0,.slice none 0 0,.slice none 0 0] 107))=w1 at *;have Z:Hid ((w1.cell? (Ad w.heap.size 0)=some (Vi a0)∧w1.cell? (Ad w.heap.size 1)=some (Vi a1)∧w1.cell? (Ad w.heap.size 2)=some (Vi a2)∧w1.cell? (Ad w.heap.size 3)=some (Vi a3)∧w1.cell? (Ad w.heap.size 4)=some (Vi a4)∧w1.cell? (Ad w.heap.size 5)=some (Vi a5)∧w1.cell? (Ad w.heap.size 6)=some (Vi a6)∧w1.cell? (Ad w.heap.size 7)=some (Vi a7)∧w1.cell? (Ad w.heap.size 8)=some (Vi a8)∧w1.cell? (Ad w.heap.size 9)=some (Vi a9)∧w1.cell? (Ad w.heap.size 10)=some (Vi a10)∧w1.cell? (Ad w.heap.size 11)=some (Vi a11)∧w1.cell? (Ad w.heap.size 12)=some (.slice p n cn)∧w1.cell? (Ad w.heap.size 13)=some (.slice q m cm)∧w1.cell? (Ad w.heap.size 14)=some (Vi a14))):=HZ;have Zd:Hid ((w1.drew.cell? (Ad w.heap.size 0)=some (Vi a0)∧w1.drew.cell? (Ad w.heap.size 1)=some (Vi a1)∧w1.drew.cell? (Ad w.heap.size 2)=some (Vi a2)∧w1.drew.cell? (Ad w.heap.size 3)=some (Vi a3)∧w1.drew.cell? (Ad w.heap.size 4)=some (Vi a4)∧w1.drew.cell? (Ad w.heap.size 5)=some (Vi a5)∧w1.drew.cell? (Ad w.heap.size 6)=some (Vi a6)∧w1.drew.cell? (Ad w.heap.size 7)=some (Vi a7)∧w1.drew.cell? (Ad w.heap.size 8)=some (Vi a8)∧w1.drew.cell? (Ad w.heap.size 9)=some (Vi a9)∧w1.drew.cell? (Ad w.heap.size 10)=some (Vi a10)∧w1.drew.cell? (Ad w.heap.size 11)=some (Vi a11)∧w1.drew.cell? (Ad w.heap.size 12)=some (.slice p n cn)∧w1.drew.cell? (Ad w.heap.size 13)=some (.slice q m cm)∧w1.drew.cell? (Ad w.heap.size 14)=some (Vi a14))):=Zab (HZ.out.later (Below.refl _ _).drew);have HNV:Hid (w.heap.size≠w.heap.size+1):=Zab (by omega);obtain⟨c0,c1,c2,c3,c4,c5,c6,c7,c8,c9,c10,c11,c12,c13,c14⟩:=Z.out
 go_region_held3 (fun u=>(u.cell? (Ad w.heap.size 0)=some (Vi a0)∧u.cell? (Ad w.heap.size 1)=some (Vi a1)∧u.cell? (Ad w.heap.size 2)=some (Vi a2)∧u.cell? (Ad w.heap.size 3)=some (Vi a3)∧u.cell? (Ad w.heap.size 4)=some (Vi a4)∧u.cell? (Ad w.heap.size 5)=some (Vi a5)∧u.cell? (Ad w.heap.size 6)=some (Vi a6)∧u.cell? (Ad w.heap.size 7)=some (Vi a7)∧u.cell? (Ad w.heap.size 8)=some (Vi a8)∧u.cell? (Ad w.heap.size 9)=some (Vi a9)∧u.cell? (Ad w.heap.size 10)=some (Vi a10)∧u.cell? (Ad w.heap.size 11)=some (Vi a11)∧u.cell? (Ad w.heap.size 12)=some (.slice p n cn)∧u.cell? (Ad w.heap.size 13)=some (.slice q m cm)∧u.cell? (Ad w.heap.size 14)=some (Vi a14)))
  (first
   |(with_reducible assumption)
   |(with_reducible exact Zd.out)
   |(with_reducible exact KS.out)
   |(with_reducible exact axb_set7 HNV.out KS.out))
  (first
   |(go_at_call 170;refine Sb (hgr _) fun w2 hb=>?_;have hb:=Zac (Below.refl _ w1).drew hb;have KS:Hid ((w2.cell? (Ad w.heap.size 0)=some (Vi a0)∧w2.cell? (Ad w.heap.size 1)=some (Vi a1)∧w2.cell? (Ad w.heap.size 2)=some (Vi a2)∧w2.cell? (Ad w.heap.size 3)=some (Vi a3)∧w2.cell? (Ad w.heap.size 4)=some (Vi a4)∧w2.cell? (Ad w.heap.size 5)=some (Vi a5)∧w2.cell? (Ad w.heap.size 6)=some (Vi a6)∧w2.cell? (Ad w.heap.size 7)=some (Vi a7)∧w2.cell? (Ad w.heap.size 8)=some (Vi a8)∧w2.cell? (Ad w.heap.size 9)=some (Vi a9)∧w2.cell? (Ad w.heap.size 10)=some (Vi a10)∧w2.cell? (Ad w.heap.size 11)=some (Vi a11)∧w2.cell? (Ad w.heap.size 12)=some (.slice p n cn)∧w2.cell? (Ad w.heap.size 13)=some (.slice q m cm)∧w2.cell? (Ad w.heap.size 14)=some (Vi a14))):=Zab (HZ.out.later hb);have HR2:=Zab (HR.out.later hb);have HB2:=Zab (Zac HB.out hb);obtain⟨⟨⟨t0,u0⟩,⟨t1,u1⟩,⟨t2,u2⟩,⟨t3,u3⟩,⟨t4,u4⟩,⟨t5,u5⟩,t6,u6⟩,_⟩:=HR2.out;clear hb))
 all_goals
  go_wp2_with fail;refine bodyPost_ret (v:=.agg #[Vi a0,Vi a1,Vi a11,Vi a14,Vi ((a4-1)*a5),.slice p n cn,.slice q m cm]) (by simp[results,results168,go_sem, *]) rfl ⟨rfl,?_⟩;exact((((((HB2.out.setCell (by simp) _).setCell (by simp) _).setCell (by simp) _).setCell (by simp) _).setCell (by simp) _).setCell (by simp) _).setCell (by simp) _
def rgE(s p:Int):Int:=if betw s 2 4&&betw p 0 1000 then 0 else 1
theorem Zdz{s p:Int}(h:rgE s p=0):(2≤s∧s≤4)∧0≤p∧p≤1000:=by
 unfold rgE at h
 split at h
 · rename_i h'
   simp only[Bool.and_eq_true] at h';exact⟨Zas h'.1,Zas h'.2⟩
 · omega
def fmE(l n lo hi:Int):Int:=if l<2*n∨0<lo∨hi<0 then 3 else 0
theorem checkRange_any(a0 a1 a2 a3 a4 a5 a6 a7 a8 a9 a10 a11 a14:Int)(p q:Option Addr)(n m cn cm:Nat)(w:World):Calls prog 177 #[.agg #[Vi a0,Vi a1,Vi a2,Vi a3,Vi a4,Vi a5,Vi a6,Vi a7,Vi a8,Vi a9,Vi a10,Vi a11,.slice p n cn,.slice q m cm,Vi a14]] w fun e w'=>e=.returned (errV (rgE a4 a3))∧Below w.heap.size w w':=by
 have f1:=Zbc a4 2 4;have f2:=Zbc a3 0 1000
 unfold rgE
 generalize betw a4 2 4=x1 at *;generalize betw a3 0 1000=x2 at*
 cases x1
 · go_enter func177,ntmps177
   go_wp2_with (first|((first|go_at_call_of 76 (Vi a4)|go_at_call_of 76 (Value.int .i64 a4));refine(f1 _).mono ?_;rintro e w' ⟨rfl,rfl⟩)|((first|go_at_call_of 76 (Vi a3)|go_at_call_of 76 (Value.int .i64 a3));refine(f2 _).mono ?_;rintro e w' ⟨rfl,rfl⟩));go_ret;exact⟨rfl,by repeat (first|exact Zaa _ _|refine Zac ?_ (Zaa _ _))⟩
 · cases x2
   · go_enter func177,ntmps177
     go_wp2_with (first|((first|go_at_call_of 76 (Vi a4)|go_at_call_of 76 (Value.int .i64 a4));refine(f1 _).mono ?_;rintro e w' ⟨rfl,rfl⟩)|((first|go_at_call_of 76 (Vi a3)|go_at_call_of 76 (Value.int .i64 a3));refine(f2 _).mono ?_;rintro e w' ⟨rfl,rfl⟩));go_ret;exact⟨rfl,by repeat (first|exact Zaa _ _|refine Zac ?_ (Zaa _ _))⟩
   · go_enter func177,ntmps177
     go_wp2_with (first|((first|go_at_call_of 76 (Vi a4)|go_at_call_of 76 (Value.int .i64 a4));refine(f1 _).mono ?_;rintro e w' ⟨rfl,rfl⟩)|((first|go_at_call_of 76 (Vi a3)|go_at_call_of 76 (Value.int .i64 a3));refine(f2 _).mono ?_;rintro e w' ⟨rfl,rfl⟩));go_ret;exact⟨rfl,by repeat (first|exact Zaa _ _|refine Zac ?_ (Zaa _ _))⟩
theorem checkForm_any(a0 a1 a2 a3 a4 a5 a6 a7 a8 a9 a10 a11 a14:Int)(p q:Option Addr)(n m cn cm:Nat)(hn:0≤a2∧a2≤1000)(w:World):Calls prog 186 #[.agg #[Vi a0,Vi a1,Vi a2,Vi a3,Vi a4,Vi a5,Vi a6,Vi a7,Vi a8,Vi a9,Vi a10,Vi a11,.slice p n cn,.slice q m cm,Vi a14]] w fun e w'=>e=.returned (errV (fmE a8 a2 a0 a1))∧Below w.heap.size w w':=by
 obtain⟨n0,n1⟩:=hn
 unfold fmE
 by_cases h1:a8<2*a2
 · rw[if_pos (.inl h1),Zbg (by decide)]
   go_enter func186,ntmps186
   go_wp2;go_ret;exact⟨rfl,Zaa _ _⟩
 · by_cases h2:0<a0
   · rw[if_pos (.inr (.inl h2)),Zbg (by decide)]
     go_enter func186,ntmps186
     go_wp2;go_ret;exact⟨rfl,Zaa _ _⟩
   · by_cases h3:a1<0
     · rw[if_pos (.inr (.inr h3)),Zbg (by decide)]
       go_enter func186,ntmps186
       go_wp2;go_ret;exact⟨rfl,Zaa _ _⟩
     · rw[if_neg (by omega),Zar]
       go_enter func186,ntmps186
       go_wp2;go_ret;exact⟨rfl,Zaa _ _⟩
theorem clo1_any(a0 a1 a2 a3 a4 a5 a6 a7 a8 a9 a10 a11 a14:Int)(p q:Option Addr)(n m cn cm:Nat)(B:Nat)(u:World)(h:AxB u B a0 a1 a2 a3 a4 a5 a6 a7 a8 a9 a10 a11 a14 p q n m cn cm):
 Calls prog 176 #[.pointer (some (Ad B 0))] u fun e w'=>e=.returned (errV (rgE a4 a3))∧Below u.heap.size u w':=by
 obtain⟨c0,c1,c2,c3,c4,c5,c6,c7,c8,c9,c10,c11,c12,c13,c14⟩:=h
 go_enter func176,ntmps176
 go_wp2_with (first
  |(go_at_call 177;refine Sb (checkRange_any a0 a1 a2 a3 a4 a5 a6 a7 a8 a9 a10 a11 a14 p q n m cn cm _) fun w1 hb1=>?_))
 go_ret;exact⟨rfl,hb1⟩
theorem clo2_any(a0 a1 a2 a3 a4 a5 a6 a7 a8 a9 a10 a11 a14:Int)(p q:Option Addr)(n m cn cm:Nat)(B:Nat)(u:World)(h:AxB u B a0 a1 a2 a3 a4 a5 a6 a7 a8 a9 a10 a11 a14 p q n m cn cm):
 Calls prog 178 #[.pointer (some (Ad B 0))] u fun e w'=>e=.returned (errV (Zdh a8 a9))∧Below u.heap.size u w':=by
 obtain⟨c0,c1,c2,c3,c4,c5,c6,c7,c8,c9,c10,c11,c12,c13,c14⟩:=h
 go_enter func178,ntmps178
 go_wp2_with (first
  |(go_at_call 104;refine Sb (Zev a0 a1 a2 a3 a4 a5 a6 a7 a8 a9 a10 a11 a14 p q n m cn cm _) fun w1 hb1=>?_)
  |(go_at_call 117;refine Sb (Zgc a8 a9 _) fun w2 hb2=>?_))
 go_ret;exact⟨rfl,Zac hb1 hb2⟩
theorem clo3_any(a0 a1 a2 a3 a4 a5 a6 a7 a8 a9 a10 a11 a14:Int)(p q:Option Addr)(n m cn cm:Nat)(B:Nat)(u:World)(h:AxB u B a0 a1 a2 a3 a4 a5 a6 a7 a8 a9 a10 a11 a14 p q n m cn cm):
 Calls prog 179 #[.pointer (some (Ad B 0))] u fun e w'=>e=.returned (errV (arE a5 a6 a7 a10))∧Below u.heap.size u w':=by
 obtain⟨c0,c1,c2,c3,c4,c5,c6,c7,c8,c9,c10,c11,c12,c13,c14⟩:=h
 go_enter func179,ntmps179
 go_wp2_with (first
  |(go_at_call 106;refine Sb (Zed a0 a1 a2 a3 a4 a5 a6 a7 a8 a9 a10 a11 a14 p q n m cn cm _) fun w1 hb1=>?_)
  |(go_at_call 180;refine Sb (Zij a5 a6 a7 a10 _) fun w2 hb2=>?_))
 go_ret;exact⟨rfl,Zac hb1 hb2⟩
theorem clo4_any(a0 a1 a2 a3 a4 a5 a6 a7 a8 a9 a10 a11 a14:Int)(p q:Option Addr)(n m cn cm:Nat)(h4:2≤a4∧a4≤4)(h5:1≤a5∧a5≤1000)(h3:0≤a3∧a3≤1000)(h7:0≤a7∧a7≤1000)(h6:1≤a6∧a6≤1000)(B:Nat)(u:World)(h:AxB u B a0 a1 a2 a3 a4 a5 a6 a7 a8 a9 a10 a11 a14 p q n m cn cm):
 Calls prog 181 #[.pointer (some (Ad B 0))] u fun e w'=>e=.returned (errV (grE a0 a1 a2 (a3+a7) ((a4-1)*a5) ((a4-1)*a6)))∧Below u.heap.size u w':=by
 obtain⟨c0,c1,c2,c3,c4,c5,c6,c7,c8,c9,c10,c11,c12,c13,c14⟩:=h
 go_enter func181,ntmps181
 go_wp2_with (first
  |(go_at_call 170;refine Sb (Zdd a0 a1 a2 a3 a4 a5 a6 a7 a8 a9 a10 a11 a14 p q n m cn cm h4 h5 h3 h7 h6 _) fun w1 hb1=>?_)
  |(go_at_call 182;refine Sb (Zhy a0 a1 a2 (a3+a7) ((a4-1)*a5) ((a4-1)*a6) _) fun w2 hb2=>?_))
 go_ret;exact⟨rfl,Zac hb1 hb2⟩
theorem clo5_any(a0 a1 a2 a3 a4 a5 a6 a7 a8 a9 a10 a11 a14:Int)(p q:Option Addr)(al zl:List Int)(cn cm:Nat)(h4:2≤a4∧a4≤4)(h5:1≤a5∧a5≤1000)(h3:0≤a3∧a3≤1000)(h7:0≤a7∧a7≤1000)(h6:1≤a6∧a6≤1000)(hm:al.length≤9223372036854775807)(hn:zl.length≤9223372036854775807)(hca:al.length≤cn)(B:Nat)(u:World)(h:AxB u B a0 a1 a2 a3 a4 a5 a6 a7 a8 a9 a10 a11 a14 p q al.length zl.length cn cm)(ha:Lst u p al)(hz:Lst u q zl):
 Calls prog 183 #[.pointer (some (Ad B 0))] u fun e w'=>e=.returned (errV (ruE a0 a1 a11 a14 ((a4-1)*a5) al zl))∧Below u.heap.size u w':=by
 have HL:=Zab (And.intro ha hz);clear ha hz;obtain⟨c0,c1,c2,c3,c4,c5,c6,c7,c8,c9,c10,c11,c12,c13,c14⟩:=h
 go_enter func183,ntmps183
 go_wp2_with (first
  |(go_at_call 168;refine Sb (Zew a0 a1 a2 a3 a4 a5 a6 a7 a8 a9 a10 a11 a14 p q al.length zl.length cn cm h4 h5 h3 h7 h6 _) fun w1 hb1=>?_)
  |(go_at_call 184;refine Sb (Ziy a0 a1 a11 a14 ((a4-1)*a5) p q cn cm al zl hm hn hca _ (HL.out.1.later hb1) (HL.out.2.later hb1)) fun w2 hb2=>?_))
 go_ret;exact⟨rfl,Zac hb1 hb2⟩
theorem clo6_any(a0 a1 a2 a3 a4 a5 a6 a7 a8 a9 a10 a11 a14:Int)(p q:Option Addr)(n m cn cm:Nat)(hn:0≤a2∧a2≤1000)(B:Nat)(u:World)(h:AxB u B a0 a1 a2 a3 a4 a5 a6 a7 a8 a9 a10 a11 a14 p q n m cn cm):
 Calls prog 185 #[.pointer (some (Ad B 0))] u fun e w'=>e=.returned (errV (fmE a8 a2 a0 a1))∧Below u.heap.size u w':=by
 obtain⟨c0,c1,c2,c3,c4,c5,c6,c7,c8,c9,c10,c11,c12,c13,c14⟩:=h
 go_enter func185,ntmps185
 go_wp2_with (first
  |(go_at_call 186;refine Sb (checkForm_any a0 a1 a2 a3 a4 a5 a6 a7 a8 a9 a10 a11 a14 p q n m cn cm hn _) fun w1 hb1=>?_))
 go_ret;exact⟨rfl,hb1⟩
theorem axisChecks_any(a0 a1 a2 a3 a4 a5 a6 a7 a8 a9 a10 a11 a14:Int)(p q:Option Addr)(n m cn cm:Nat)(w:World):Calls prog 115 #[.agg #[Vi a0,Vi a1,Vi a2,Vi a3,Vi a4,Vi a5,Vi a6,Vi a7,Vi a8,Vi a9,Vi a10,Vi a11,.slice p n cn,.slice q m cm,Vi a14]] w fun e w'=>e=.returned (.slice (some (Ad (w.heap.size+1) 0)) 6 6)∧w'=(w.alloc (.cells #[Vi a0,Vi a1,Vi a2,Vi a3,Vi a4,Vi a5,Vi a6,Vi a7,Vi a8,Vi a9,Vi a10,Vi a11,.slice p n cn,.slice q m cm,Vi a14] 26)).alloc (.cells #[.func (.func 176) #[] #[.pointer (some (Ad w.heap.size 0))],.func (.func 178) #[] #[.pointer (some (Ad w.heap.size 0))],.func (.func 179) #[] #[.pointer (some (Ad w.heap.size 0))],.func (.func 181) #[] #[.pointer (some (Ad w.heap.size 0))],.func (.func 183) #[] #[.pointer (some (Ad w.heap.size 0))],.func (.func 185) #[] #[.pointer (some (Ad w.heap.size 0))]] 142):=by
 go_enter func115,ntmps115
 go_wp2;go_ret;exact⟨rfl,rfl⟩
theorem Zis(x0 x1 x2 x3 x4 x5 x6 x7 x8 x9 x10 x11 x12 x13 x14 x15 x16 x17 x18 x19 x20 x21 x22 x23 x24 x25 x26 x27 x28 x29:Value)(c0 c1:Int)(w:World):Calls prog 103 #[.agg #[x0,x1,x2,x3,x4,x5,x6,x7,x8,x9,x10,x11,x12,x13,x14,x15,x16,x17,x18,x19,x20,x21,x22,x23,x24,x25,x26,x27,x28,x29,Vi c0,Vi c1]] w fun e w'=>e=.returned (.agg #[Vi c0,Vi c1])∧Below w.heap.size w w':=by
 go_enter func103,ntmps103
 go_wp2;exact bodyPost_ret (v:=.agg #[Vi c0,Vi c1]) (by simp[results,results103,go_sem]) rfl ⟨rfl,Zac (Zaa _ _) (Zaa _ _)⟩
theorem rangeAt_later{u u':World}{B o:Nat}{cs:List Value}(h:u.rangeAt B o cs)(hb:Below u.heap.size u u'):u'.rangeAt B o cs:=fun j v hv=>cell_later hb (h j v hv)
theorem check1_any(x0 x1 x2 x3 x4 x5 x6 x7 x8 x9 x10 x11 x12 x13 x14 x15 x16 x17 x18 x19 x20 x21 x22 x23 x24 x25 x26 x27 x28 x29:Value)(c0 c1:Int)(B:Nat)(u:World)(h:u.rangeAt B 0 [x0,x1,x2,x3,x4,x5,x6,x7,x8,x9,x10,x11,x12,x13,x14,x15,x16,x17,x18,x19,x20,x21,x22,x23,x24,x25,x26,x27,x28,x29,Vi c0,Vi c1]):Calls prog 116 #[.pointer (some (Ad B 0))] u fun e w'=>e=.returned (errV (Zdh c0 c1))∧Below u.heap.size u w':=by
 have HR:=Zab h;clear h
 go_enter func116,ntmps116
 go_wp2_with (first
  |(refine Lq 29 _ rfl ?_;refine wpList_load_mid rfl 29 (.tmp 0) rfl B 0 rfl [x0,x1,x2,x3,x4,x5,x6,x7,x8,x9,x10,x11,x12,x13,x14,x15,x16,x17,x18,x19,x20,x21,x22,x23,x24,x25,x26,x27,x28,x29,Vi c0,Vi c1] _ HR.out underlying29 rfl Zaw ?_)
  |(go_at_call 103;refine Sb (Zis x0 x1 x2 x3 x4 x5 x6 x7 x8 x9 x10 x11 x12 x13 x14 x15 x16 x17 x18 x19 x20 x21 x22 x23 x24 x25 x26 x27 x28 x29 c0 c1 _) fun w1 hb1=>?_)
  |(go_at_call 117;refine Sb (Zgc c0 c1 _) fun w2 hb2=>?_))
 go_ret;exact⟨rfl,Zac hb1 hb2⟩
theorem Zav:(prog.info? 26).map (·.size)=some 15:=by kernel_rfl
theorem infoA30:(prog.info? 27).map (·.size)=some 30:=by kernel_rfl
theorem Zct{ops:Array Oper}{rest:List Oper}{op:Oper}{a:Act}{w:World}{Q:Exit→Act→World→Prop}{c c':Array Value}(x y:Operand)(hgd:op.guard=none)(ho:op.op=.store 26 x y)
 (hx:a.eval x=.pointer (some (Ad w.heap.size 0))) (hy:a.eval y=.agg c') (hs:c'.size=15) (hc:c.size=c'.size) (h1:c'.all (·.oneCell')=true)
 (h:wpList prog ops Q rest (a.put op.dst undef) (w.alloc (.cells c' 26))):wpList prog ops Q (op::rest) a (w.alloc (.cells c 26)):=
 wpList_plain hgd fun _ hK=>by
  unfold Oper.wp execOp
  simp only[ho,hx,hy,Sem.run_bind,Sem.run_pure,Result.andThen_ok,run_storeAt_new w 26 c c' (by rw[Zav,hs]) hc h1];exact hK _ _ h
theorem axidx0(C:CR)(w:World):(Instr.index 27 (.agg (axL C 0++axL C 1).toArray) (Vi 0)).run prog w=.ok (.agg (axL C 0).toArray) w:=by kernel_rfl
theorem axidx1(C:CR)(w:World):(Instr.index 27 (.agg (axL C 0++axL C 1).toArray) (Vi 1)).run prog w=.ok (.agg (axL C 1).toArray) w:=by kernel_rfl
theorem speedRule_c(C:CR)(w:World):Calls prog 103 #[.agg (crL C).toArray] w fun e w'=>e=.returned (.agg #[Vi C.c0,Vi C.c1])∧Below w.heap.size w w':=Zis _ _ _ _ _ _ _ _ _ _ _ _ _ _ _ _ _ _ _ _ _ _ _ _ _ _ _ _ _ _ C.c0 C.c1 w
theorem voteBanks_ok{K:Nat}{wz w:World}{B:Nat}{S:FS}{C:CR}{a:Option Addr}{cap:Nat}{l:List Rd}{sv:Nat→List Sv}{G:Nat→Nat}(hf:FR K wz w B S C a cap l sv G)
 (h2:Zcz (S.bk 2).b (S.bk 2).l C.c0 C.c1 (tS l 8) (sS l 8)=0) (h0:Zcz (S.bk 0).b (S.bk 0).l (C.a 0 8) (C.a 0 9) (tS l 1) (sS l 1)=0) (h1:Zcz (S.bk 1).b (S.bk 1).l (C.a 1 8) (C.a 1 9) (tS l 2) (sS l 2)=0):
 Calls prog 58 #[.pointer (some (Ad B 0))] w fun e w'=>e=.returned .nilIface∧FR K wz w' B ({ S with bk:=upd (upd (upd S.bk 2 (vbk (S.bk 2) C.c0 C.c1 (tS l 8) (sS l 8))) 0 (vbk (S.bk 0) (C.a 0 8) (C.a 0 9) (tS l 1) (sS l 1))) 1 (vbk (S.bk 1) (C.a 1 8) (C.a 1 9) (tS l 2) (sS l 2)) }:FS) C a cap l sv G:=by
 have HF:=Zab hf;have HC:=Zab (hf.blk.sub 30 32);rw[fr_craft] at HC;have hia:=axidx0 C;have hib:=axidx1 C;clear hf
 go_enter func58,ntmps58
 go_upto_region 2 with(first
  |(refine Lq 29 _ rfl ?_;refine wpList_load_mid rfl 29 (.tmp 10) rfl B 30 rfl (crL C) _ HC.out underlying29 rfl Zaw ?_)
  |(go_at_call 103;refine Sb (speedRule_c C _) fun r hb=>?_;have HFr:=Zab (HF.out.later hb);clear hb HF HC)
  |(go_at_call 102;refine Sb (Zid HFr.out 2 (by omega) 8 C.c0 C.c1 h2) fun z hf=>?_;have HF0:Hid (FR K wz z B ({ S with bk:=upd S.bk 2 (vbk (S.bk 2) C.c0 C.c1 (tS l 8) (sS l 8)) }:FS) C a cap l sv G):=Zab hf;clear hf HFr))
 have HX:=Zab (HF0.out.blk.sub 30 30);rw[fr_axes] at HX
 go_upto_region 5 with(first
  |(refine Lq 27 _ rfl ?_;refine wpList_load_mid rfl 27 (.tmp 20) rfl B 30 rfl (axL C 0++axL C 1) _ HX.out underlying27 rfl infoA30 ?_))
 clear HX;refine wp_loop_rounds 3 ?_;rw[rounds_succ];have HA0:Hid (Blk 26 (z.alloc (.cells (axL C 0).toArray 26)) z.heap.size (axL C 0)):=Zab (Blk.new z _ (axL C 0));have HFa0:=Zab (HF0.out.later (Zaa z (.cells (axL C 0).toArray 26)))
 go_upto_region 7 with(first
  |(refine Sq 26 _ _ rfl ?_;refine Zct (c':=(axL C 0).toArray) (.tmp 5) (.tmp 25) rfl rfl rfl rfl rfl rfl (Zaq _ rfl) ?_))
 generalize z.alloc (.cells (axL C 0).toArray 26)=v0 at *;generalize z.heap.size=Q0 at HA0⊢;clear HF0
 go_wp2_with (first
  |(refine Lq 26 _ rfl ?_;refine wpList_load_mid rfl 26 (.tmp 5) rfl Q0 0 rfl (axL C 0) _ HA0.out.range underlying26 rfl Zav ?_)
  |(go_at_call 104;refine Sb (Zev (C.a 0 0) (C.a 0 1) (C.a 0 2) (C.a 0 3) (C.a 0 4) (C.a 0 5) (C.a 0 6) (C.a 0 7) (C.a 0 8) (C.a 0 9) (C.a 0 10) (C.a 0 11) (C.a 0 14) (C.p 0) (C.q 0) (C.al 0).length (C.zl 0).length (C.cn 0) (C.cm 0) _) fun r0 hb=>?_;have HFb0:=Zab (HFa0.out.later hb);clear hb HFa0)
  |(go_at_call 102;refine Sb (Zid HFb0.out 0 (by omega) 1 _ _ h0) fun z0 hf=>?_;have HF1:Hid (FR K wz z0 B ({ S with bk:=upd (upd S.bk 2 (vbk (S.bk 2) C.c0 C.c1 (tS l 8) (sS l 8))) 0 (vbk (S.bk 0) (C.a 0 8) (C.a 0 9) (tS l 1) (sS l 1)) }:FS) C a cap l sv G):=Zab hf;clear hf HFb0))
 clear HA0;rw[rounds_succ];have HA1:Hid (Blk 26 (z0.alloc (.cells (axL C 1).toArray 26)) z0.heap.size (axL C 1)):=Zab (Blk.new z0 _ (axL C 1));have HFa1:=Zab (HF1.out.later (Zaa z0 (.cells (axL C 1).toArray 26)))
 go_upto_region 7 with(first
  |(refine Sq 26 _ _ rfl ?_;refine Zct (c':=(axL C 1).toArray) (.tmp 5) (.tmp 25) rfl rfl rfl rfl rfl rfl (Zaq _ rfl) ?_))
 generalize z0.alloc (.cells (axL C 1).toArray 26)=v1 at *;generalize z0.heap.size=Q1 at HA1⊢;clear HF1
 go_wp2_with (first
  |(refine Lq 26 _ rfl ?_;refine wpList_load_mid rfl 26 (.tmp 5) rfl Q1 0 rfl (axL C 1) _ HA1.out.range underlying26 rfl Zav ?_)
  |(go_at_call 104;refine Sb (Zev (C.a 1 0) (C.a 1 1) (C.a 1 2) (C.a 1 3) (C.a 1 4) (C.a 1 5) (C.a 1 6) (C.a 1 7) (C.a 1 8) (C.a 1 9) (C.a 1 10) (C.a 1 11) (C.a 1 14) (C.p 1) (C.q 1) (C.al 1).length (C.zl 1).length (C.cn 1) (C.cm 1) _) fun r1 hb=>?_;have HFb1:=Zab (HFa1.out.later hb);clear hb HFa1)
  |(go_at_call 102;refine Sb (Zid HFb1.out 1 (by omega) 2 _ _ h1) fun z1 hf=>?_;have HF2:Hid (FR K wz z1 B ({ S with bk:=upd (upd (upd S.bk 2 (vbk (S.bk 2) C.c0 C.c1 (tS l 8) (sS l 8))) 0 (vbk (S.bk 0) (C.a 0 8) (C.a 0 9) (tS l 1) (sS l 1))) 1 (vbk (S.bk 1) (C.a 1 8) (C.a 1 9) (tS l 2) (sS l 2)) }:FS) C a cap l sv G):=Zab hf;clear hf HFb1))
 clear HA1;rw[rounds_succ];go_wp2_with fail;go_ret;exact⟨rfl,HF2.out⟩
theorem Zfu(v:Int)(w:World):
 Calls prog 322 #[.agg #[],Vi v] w fun e w'=>e=.returned (Vi 0)∧Below w.heap.size w w':=by
 go_enter func322,ntmps322
 go_wp2;go_ret;exact⟨rfl,Zaa _ _⟩
theorem Zgb(lo hi v:Int)(w:World):
 Calls prog 323 #[.agg #[Vi lo,Vi hi],Vi v] w fun e w'=>e=.returned (Vi (Zal v lo hi))∧Below w.heap.size w w':=by
 go_enter func323,ntmps323
 go_wp2_with (go_at_call 172;refine Sm (Zay _ _ _ _) ?_);go_ret;exact⟨rfl,Zaa _ _⟩
theorem Zih(x x':Value)(w:World):Sem.run prog (method 521 343 (.agg #[x,x']) "fulmar/share.takes") w=.ok (323,.agg #[x,x']) w:=by kernel_rfl
theorem lost_method(w:World):Sem.run prog (method 521 342 (.agg #[]) "fulmar/share.takes") w=.ok (322,.agg #[]) w:=by kernel_rfl
def tv(T R:Int)(s:Sv):Value:=if s.2.2 then .iface 342 (.agg #[]) else .iface 343 (.agg #[Vi (loR T R s.1 s.2.2),Vi (hiR T R s.1 s.2.2)])
theorem tk_lost{T R v:Int}{s:Sv}(h:s.2.2=true):tk T R s v=0:=by
 unfold tk loR hiR Zal;rw[h];simp only[if_true];split
 · rfl
 · split
   · rfl
   · split<;>omega
def WLs(w:World)(a:Option Addr)(T R:Int)(l:List Sv):Prop:=l=[]∨∃b off,a=some (Ad b off)∧∀k,k<l.length→w.cell? (Ad b (off+k))=some (tv T R (svAt l k))
theorem WLs.later{w w':World}{a:Option Addr}{T R:Int}{l:List Sv}(h:WLs w a T R l)(hb:Below w.heap.size w w'):WLs w' a T R l:=by
 rcases h with h|⟨b,off,h,hc⟩
 · exact .inl h
 · exact .inr ⟨b,off,h,fun k hk=>cell_later hb (hc k hk)⟩
theorem WLs.at{w:World}{a:Option Addr}{T R:Int}{l:List Sv}(h:WLs w a T R l){k:Nat}(hk:k<l.length):∃b off,a=some (Ad b off)∧w.cell? (Ad b (off+k))=some (tv T R (svAt l k)):=by
 rcases h with h|⟨b,off,h,hc⟩
 · subst h;simp at hk
 · exact⟨b,off,h,hc k hk⟩
theorem Zep(T R S C:Int)(l:List Sv)(v:Int)(a:Option Addr)(cap:Nat)(hok:AllOk T R S C l)(hl:l.length≤9)(w:World)(hw:WLs w a T R l):
 Calls prog 221 #[.slice a l.length cap,Vi v] w fun e w'=>e=.returned (Vi (tot T R l v))∧Below w.heap.size w w':=by
 have HW:=Zab hw;have HOK:=Zab hok;have hme:=Zih;have hml:=lost_method;clear hw hok
 go_enter func221,ntmps221
 go_wp2
 go_loopw [5,10] (fun s i wr=>∃k:Nat,k≤l.length∧i=Vi k∧s=Vi (totU T R l v k)∧Below w.heap.size w wr) (fun _ i _=>l.length-(intOf i).toNat)
 case atStart=>exact⟨0,Nat.zero_le _,rfl,rfl,Below.refl _ _⟩
 case round=>
  obtain⟨k,hk,rfl,rfl,hb⟩:=hrel;have HB:=Zab hb;have hbd:=totU_bd HOK.out v k hk;clear hb
  by_cases hlt:k<l.length
  · obtain⟨bb,off,rfl,hc⟩:=(HW.out.later HB.out).at hlt;have htb:=tk_bd HOK.out hlt v;have HS:=Zab (show totU T R l v (k+1)=totU T R l v k+tk T R (svAt l k) v from rfl);have htk:tk T R (svAt l k) v=Zal v (loR T R (svAt l k).1 (svAt l k).2.2) (hiR T R (svAt l k).1 (svAt l k).2.2):=rfl
    have j0:(0:Int)≤(k:Int):=by omega
    have j1:(k:Int)<(l.length:Int):=by omega
    generalize totU T R l v k=s at*
    cases ho:(svAt l k).2.2
    · have hf:=Zgb (loR T R (svAt l k).1 (svAt l k).2.2) (hiR T R (svAt l k).1 (svAt l k).2.2) v;rw[←htk] at hf
      unfold tv at hc
      rw[if_neg (by simp[ho])] at hc;clear htk ho;generalize tk T R (svAt l k) v=t at *;generalize loR T R (svAt l k).1 (svAt l k).2.2=lo at *;generalize hiR T R (svAt l k).1 (svAt l k).2.2=hi at*
      go_wp2_with (go_at_call 323;refine Sb (hf _) fun w1 hb1=>?_);go_roundw
      case rel=>exact⟨k+1,by omega,by go_num,by rw[HS.out],Zac HB.out hb1⟩
      case measure=>simp[intOf];omega
    · have hf:=Zfu v;rw[←tk_lost (T:=T) (R:=R) (v:=v) ho] at hf
      unfold tv at hc
      rw[if_pos ho] at hc;clear htk ho;generalize tk T R (svAt l k) v=t at*
      go_wp2_with (go_at_call 322;refine Sb (hf _) fun w1 hb1=>?_);go_roundw
      case rel=>exact⟨k+1,by omega,by go_num,by rw[HS.out],Zac HB.out hb1⟩
      case measure=>simp[intOf];omega
  · have e:k=l.length:=by omega
    subst e;go_wp2;go_ret;exact⟨rfl,HB.out⟩
theorem taken_any(T R S C i b:Int)(o:Bool)(v:Int)(hr:arB T R S C=true)(hs:svB T C i b o=true)(w:World):
 Calls prog 147 #[.agg #[Vi T,Vi R,Vi S,Vi C],.agg #[Vi i,Vi b,.bool o],Vi v] w fun e w'=>e=.returned (Vi (tk T R (i,b,o) v))∧Below w.heap.size w w':=by
 have hrd:=reached_any T R S C i b o hr hs;have hcl:=Zax v (loR T R i o) (hiR T R i o) (lo_le_hi (svE_mk hr hs));have HN:=Zab (RS.new w T R S C i b o).2.2
 unfold tk
 clear hr hs;generalize Zal v (loR T R i o) (hiR T R i o)=t at *;generalize loR T R i o=lo at *;generalize hiR T R i o=hi at*
 go_enter func147,ntmps147
 go_wp2_with (first
  |(go_at_call 200;refine Sb (hrd _) fun w1 hb1=>?_)
  |(go_at_call 94;refine Sm (hcl _) ?_))
 go_ret;exact⟨rfl,Zac (Zac HN.out hb1) (Zaa _ _)⟩
end Go.Proofs.YtnfdfiholcelaaaGreatDoor
