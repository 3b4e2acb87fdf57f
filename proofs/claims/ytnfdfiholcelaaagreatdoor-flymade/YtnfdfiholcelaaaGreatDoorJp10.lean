
import Derived.Test.YtnfdfiholcelaaaGreatDoorJp06
import Derived.Test.YtnfdfiholcelaaaGreatDoorJp07
import Derived.Test.YtnfdfiholcelaaaGreatDoorJp09
set_option maxRecDepth 100000
set_option maxHeartbeats 20000000
namespace Go.Proofs.YtnfdfiholcelaaaGreatDoor
open Go.RowKit Plain Tryz
variable {A B D H L M U W a0 a1 a10 a11 a14 a2 a3 a4 a5 a6 a7 a8 a9 c n s:Int}{V ca cm cn cz k m:Nat}{a p q z:Option Addr}{al zl:List Int}{u u' w:World}
def heB(c s n:Int):Bool:=betw c 0 3&&betw n 1 4&&betw s 0 n
def heE(c s n:Int):Int:=if heB c s n then 0 else 1
theorem heB_true(h:heB c s n=true):(0≤c∧c≤3)∧(1≤n∧n≤4)∧0≤s∧s≤n:=by
 simp only[heB,Bool.and_eq_true] at h;exact⟨Z0 h.1.1,Z0 h.1.2,Z0 h.2⟩
theorem heE_zero(h:heE c s n=0):heB c s n=true:=by
 unfold heE at h;split at h
 · assumption
 · omega
def lawI(c s n:Int):Int:=if s=0 then 3 else if c<2 then 2 else if s+2≤n then 2 else if s<n then 1 else 0
def mxL(a b:Int):Int:=if a<b then b else a
theorem Ns(ts:Array TypeId)(t:TypeId)(p q:Int)(w:World):(Builtin.max_ ts t #[Vi p,Vi q]).run prog w=.ok (Vi (mxL p q)) w:=by
 unfold mxL
 by_cases h:p<q
 · rw[if_pos h];simp[Builtin.max_,Builtin.max2,h]
 · rw[if_neg h];simp[Builtin.max_,Builtin.max2,h]
theorem lawCheck_any(c s n:Int)(w:World):
 Calls prog 162 #[.agg #[Vi c,Vi s,Vi n]] w (Rt w (errV (heE c s n))):=by
 have f1:=Ym c 0 3;have f2:=Ym n 1 4;have f3:=Ym s 0 n
 unfold heE heB
 generalize betw c 0 3=x1 at *;generalize betw n 1 4=x2 at *;generalize betw s 0 n=x3 at*
 rcases(show x1=false∨(x1=true∧x2=false)∨(x1=true∧x2=true∧x3=false)∨(x1=true∧x2=true∧x3=true) by cases x1<;>cases x2<;>cases x3<;>simp) with rfl|⟨rfl,rfl⟩|⟨rfl,rfl,rfl⟩|⟨rfl,rfl,rfl⟩
 all_goals
  go_enter func162,ntmps162
  go_wp2_with (first|((first|go_at_call_of 76 (Vi s)|go_at_call_of 76 (Value.int .i64 s));refine(f3 _).mono ?_;rintro e w' ⟨rfl,rfl⟩)|((first|go_at_call_of 76 (Vi n)|go_at_call_of 76 (Value.int .i64 n));refine(f2 _).mono ?_;rintro e w' ⟨rfl,rfl⟩)|((first|go_at_call_of 76 (Vi c)|go_at_call_of 76 (Value.int .i64 c));refine(f1 _).mono ?_;rintro e w' ⟨rfl,rfl⟩));go_ret;exact⟨rfl,by repeat (first|exact Zb _ _|refine Zc ?_ (Zb _ _))⟩
theorem worse_any(a b:Int)(w:World):
 Calls prog 163 #[Vi a,Vi b] w (Re w (Vi (mxL a b))):=by
 have hx:=fun ts t p q w=>Ns ts t p q w
 go_enter func163,ntmps163
 go_wp2;go_ret;exact⟨rfl,rfl⟩
theorem asked_any(c s n:Int)(h:heB c s n=true)(w:World):
 Calls prog 164 #[.agg #[Vi c,Vi s,Vi n]] w (Rt w (Vi (lawI c s n))):=by
 obtain⟨⟨c0,c1⟩,⟨n0,n1⟩,s0,s1⟩:=heB_true h
 unfold lawI
 by_cases h1:s=0
 · rw[if_pos h1];subst h1;clear h
   go_enter func164,ntmps164
   go_wp2;go_ret;exact⟨rfl,Zb _ _⟩
 · rw[if_neg h1]
   have h1':(s==0)=false:=by simpa using h1
   by_cases h2:c<2
   · rw[if_pos h2];clear h
     go_enter func164,ntmps164
     go_wp2;go_ret;exact⟨rfl,Zb _ _⟩
   · rw[if_neg h2]
     by_cases h3:s+2≤n
     · rw[if_pos h3];clear h
       have h4:1<n-s:=by omega
       go_enter func164,ntmps164
       go_wp2;go_ret;exact⟨rfl,Zb _ _⟩
     · rw[if_neg h3]
       have h4:¬1<n-s:=by omega
       by_cases h5:s<n
       · rw[if_pos h5];clear h
         have h6:(n-s==1)=true:=by simp;omega
         go_enter func164,ntmps164
         go_wp2;go_ret;exact⟨rfl,Zb _ _⟩
       · rw[if_neg h5];clear h
         have h6:(n-s==1)=false:=by simp;omega
         go_enter func164,ntmps164
         go_wp2;go_ret;exact⟨rfl,Zb _ _⟩
theorem lawOf_any(c s n:Int)(h:heB c s n=true)(w:World):
 Calls prog 53 #[.agg #[Vi c,Vi s,Vi n]] w (Rt w (Vi (lawI c s n))):=by
 obtain⟨⟨c0,c1⟩,⟨n0,n1⟩,s0,s1⟩:=heB_true h
 unfold lawI
 by_cases h1:s=0
 · rw[if_pos h1];subst h1;clear h
   go_enter func53,ntmps53
   go_wp2;go_ret;exact⟨rfl,Zb _ _⟩
 · rw[if_neg h1]
   have h1':(s==0)=false:=by simpa using h1
   by_cases h2:c<2
   · rw[if_pos h2];clear h
     go_enter func53,ntmps53
     go_wp2;go_ret;exact⟨rfl,Zb _ _⟩
   · rw[if_neg h2]
     by_cases h3:s+2≤n
     · rw[if_pos h3];clear h
       go_enter func53,ntmps53
       go_wp2;go_ret;exact⟨rfl,Zb _ _⟩
     · rw[if_neg h3]
       by_cases h5:s<n
       · rw[if_pos h5];clear h
         go_enter func53,ntmps53
         go_wp2;go_ret;exact⟨rfl,Zb _ _⟩
       · rw[if_neg h5];clear h
         go_enter func53,ntmps53
         go_wp2;go_ret;exact⟨rfl,Zb _ _⟩
theorem U5(x:Int)(w:World):
 Calls prog 165 #[Vi x] w (Rt w (.bool (betw x 0 3))):=by
 go_enter func165,ntmps165
 go_wp2_with (go_at_call 76;refine(Ym _ _ _ _).mono ?_;rintro e w' ⟨rfl,rfl⟩);go_ret;exact⟨rfl,Zb _ _⟩
def neE(a b:Int):Int:=if betw a 0 3&&betw b 0 3 then 0 else 1
def neI(a b:Int)(g:Bool):Int:=if betw a 0 3&&betw b 0 3 then(if g then b else mxL a b) else 0
theorem next_any(a b:Int)(g:Bool)(w:World):
 Calls prog 111 #[Vi a,Vi b,.bool g] w (Rt w (.tuple #[Vi (neI a b g),errV (neE a b)])):=by
 have f1:=U5 a;have f2:=U5 b;have f3:=worse_any a b
 unfold neE neI
 generalize betw a 0 3=x1 at *;generalize betw b 0 3=x2 at *;generalize mxL a b=m at*
 cases x1
 · simp only[Bool.false_and,Bool.false_eq_true,if_false]
   go_enter func111,ntmps111
   go_wp2_with (go_at_call 165;refine Sb (f1 _) fun w1 hb1=>?_);go_ret2;exact⟨rfl,hb1⟩
 · cases x2
   · simp only[Bool.and_false,Bool.false_eq_true,if_false]
     go_enter func111,ntmps111
     go_wp2_with (first|((first|go_at_call_of 165 (Vi b)|go_at_call_of 165 (Value.int .i64 b));refine Sb (f2 _) fun w2 hb2=>?_)|((first|go_at_call_of 165 (Vi a)|go_at_call_of 165 (Value.int .i64 a));refine Sb (f1 _) fun w1 hb1=>?_));go_ret2;exact⟨rfl,Zc hb1 hb2⟩
   · simp only[Bool.and_self,if_true]
     cases g
     · simp only[Bool.false_eq_true,if_false]
       go_enter func111,ntmps111
       go_wp2_with (first|((first|go_at_call_of 165 (Vi b)|go_at_call_of 165 (Value.int .i64 b));refine Sb (f2 _) fun w2 hb2=>?_)|((first|go_at_call_of 165 (Vi a)|go_at_call_of 165 (Value.int .i64 a));refine Sb (f1 _) fun w1 hb1=>?_)|(go_at_call 163;refine(f3 _).mono ?_;rintro e w' ⟨rfl,rfl⟩));go_ret2;exact⟨rfl,Zc hb1 hb2⟩
     · simp only[if_true]
       go_enter func111,ntmps111
       go_wp2_with (first|((first|go_at_call_of 165 (Vi b)|go_at_call_of 165 (Value.int .i64 b));refine Sb (f2 _) fun w2 hb2=>?_)|((first|go_at_call_of 165 (Vi a)|go_at_call_of 165 (Value.int .i64 a));refine Sb (f1 _) fun w1 hb1=>?_));go_ret2;exact⟨rfl,Zc hb1 hb2⟩
theorem Md(x:Int)(w:World):
 Calls prog 216 #[Vi x] w (Re w (.bool (betw x 0 1))):=by
 by_cases h0:x=0
 · subst h0
   go_enter func216,ntmps216
   go_wp2;go_ret;exact⟨rfl,rfl⟩
 · have h0':(x==0)=false:=by simpa using h0
   have e:betw x 0 1=(x==1):=by
    unfold betw
    by_cases h1:x=1
    · subst h1;rfl
    · have h2:(x==1)=false:=by simpa using h1
      rw[h2];simp;omega
   rw[e]
   go_enter func216,ntmps216
   go_wp2;go_ret;exact⟨by simp,rfl⟩
def hunI(s n:Int):Int:=(s*n).tdiv 100
def Y5(g aim p:Int):Int:=mulI g (Ze (aim-Ze p (-2000000) 2000000) (-1000000) 1000000)
theorem Xk(x:Int){lo hi:Int}(h:lo≤hi):lo≤Ze x lo hi∧Ze x lo hi≤hi:=by
 unfold Ze;split
 · omega
 · split
   · omega
   · split<;>omega
theorem Un(g aim p:Int):-2147483647≤Y5 g aim p∧Y5 g aim p≤2147483647:=by
 unfold Y5 mulI;exact⟨ofI_lo _,ofI_hi _⟩
theorem hun_mul(s0:-100≤s)(s1:s≤100)(n0:0≤n)(n1:n≤4000):-400000≤s*n∧s*n≤400000:=by
 have:=mul_bdT (a:=s) (b:=n) (A:=100) (B:=4000) (by omega) (by omega) (by omega) (by omega)
 omega
theorem hunI_bd(s0:-100≤s)(s1:s≤100)(n0:0≤n)(n1:n≤4000):-400000≤hunI s n∧hunI s n≤400000:=by
 obtain⟨a,b⟩:=hun_mul s0 s1 n0 n1;exact tdiv_bd _ _ _ a b
theorem holdHun_any(s n:Int)(s0:-100≤s)(s1:s≤100)(n0:0≤n)(n1:n≤4000)(w:World):
 Calls prog 218 #[Vi s,Vi n] w (Re w (Vi (hunI s n))):=by
 obtain⟨m0,m1⟩:=hun_mul s0 s1 n0 n1
 unfold hunI
 go_enter func218,ntmps218
 go_wp2;go_ret;exact⟨rfl,rfl⟩
theorem refHun_any(s n:Int)(s0:-100≤s)(s1:s≤100)(n0:0≤n)(n1:n≤4000)(w:World):
 Calls prog 142 #[Vi s,Vi n] w (Re w (Vi (hunI s n))):=by
 obtain⟨m0,m1⟩:=hun_mul s0 s1 n0 n1
 by_cases h:s<0
 · have m2:-400000≤-s*n:=by rw[Int.neg_mul];omega
   have m3:-s*n≤400000:=by rw[Int.neg_mul];omega
   obtain⟨d0,d1⟩:=tdiv_bd (-s*n) 100 400000 m2 m3
   have e:hunI s n=-((-s*n).tdiv 100):=by unfold hunI;rw[Int.neg_mul,Int.neg_tdiv];omega
   rw[e];clear e
   go_enter func142,ntmps142
   go_wp2;go_ret;exact⟨rfl,rfl⟩
 · unfold hunI
   go_enter func142,ntmps142
   go_wp2;go_ret;exact⟨rfl,rfl⟩
theorem holdPull_any(aim p g:Int)(a0:-100000≤aim)(a1:aim≤100000)(w:World):
 Calls prog 225 #[Vi aim,Vi p,Vi g] w (Rt w (Vi (Y5 g aim p))):=by
 have c1:=Yu p (-2000000) 2000000;have b1:=Xk p (lo:=-2000000) (hi:=2000000) (by omega);have c2:=Yu (aim-Ze p (-2000000) 2000000) (-1000000) 1000000;have c3:=fixMul_any g (Ze (aim-Ze p (-2000000) 2000000) (-1000000) 1000000);obtain⟨b2,b3⟩:=b1
 unfold Y5
 generalize mulI g (Ze (aim-Ze p (-2000000) 2000000) (-1000000) 1000000)=m at *;generalize Ze (aim-Ze p (-2000000) 2000000) (-1000000) 1000000=y at *;generalize Ze p (-2000000) 2000000=x at*
 go_enter func225,ntmps225
 go_wp2_with (first
  |((first|go_at_call_of 172 (Vi p)|go_at_call_of 172 (Value.int .i64 p));refine Sm (c1 _) ?_)
  |((first|go_at_call_of 172 (Vi (aim-x))|go_at_call_of 172 (Value.int .i64 (aim-x)));refine Sm (c2 _) ?_)
  |(go_at_call 85;refine Sm (c3 _) ?_))
 go_ret;exact⟨rfl,(Below.refl _ _).drew⟩
theorem refPull_any(g aim k p v n q:Int)(a0:-100000≤aim)(a1:aim≤100000)(w:World):
 Calls prog 143 #[Vi g,Vi aim,.agg #[Vi k,Vi p,Vi v,Vi n,Vi q]] w (Rt w (Vi (Y5 g aim p))):=by
 have c1:=Yr p (-2000000) 2000000 (by omega);have b1:=Xk p (lo:=-2000000) (hi:=2000000) (by omega);have c2:=Yr (aim-Ze p (-2000000) 2000000) (-1000000) 1000000 (by omega);have c3:=refMul_any g (Ze (aim-Ze p (-2000000) 2000000) (-1000000) 1000000);obtain⟨b2,b3⟩:=b1
 unfold Y5
 generalize mulI g (Ze (aim-Ze p (-2000000) 2000000) (-1000000) 1000000)=m at *;generalize Ze (aim-Ze p (-2000000) 2000000) (-1000000) 1000000=y at *;generalize Ze p (-2000000) 2000000=x at*
 go_enter func143,ntmps143
 go_wp2_with (first
  |((first|go_at_call_of 94 (Vi p)|go_at_call_of 94 (Value.int .i64 p));refine Sm (c1 _) ?_)
  |((first|go_at_call_of 94 (Vi (aim-x))|go_at_call_of 94 (Value.int .i64 (aim-x)));refine Sm (c2 _) ?_)
  |(go_at_call 198;refine Sm (c3 _) ?_))
 go_ret;exact⟨rfl,Zb _ _⟩
theorem Me(L H U B M:Int)(a z:Option Addr)(al zl ca cz:Nat)(x:Int)(m0:1≤M)(m1:M≤4000)(w:World):
 Calls prog 224 #[.agg #[Vi L,Vi H,Vi U,Vi B,Vi M,.slice a al ca,.slice z zl cz],Vi x] w (Rt w (Vi (Ze x (-M) M))):=by
 have c1:=Yu x (-M) M;generalize Ze x (-M) M=m at*
 go_enter func224,ntmps224
 go_wp2_with (go_at_call 172;refine Sm (c1 _) ?_);go_ret;exact⟨rfl,Zb _ _⟩
def ruB(L H U B M:Int):Bool:=betw L (-100000) 100000&&betw H (-100000) 100000&&betw U 0 1000&&betw B 0 65536&&betw M 1 4000
theorem X7(h:ruB L H U B M=true):(-100000≤L∧L≤100000)∧(-100000≤H∧H≤100000)∧(0≤U∧U≤1000)∧(0≤B∧B≤65536)∧1≤M∧M≤4000:=by
 simp only[ruB,Bool.and_eq_true] at h;exact⟨Z0 h.1.1.1.1,Z0 h.1.1.1.2,Z0 h.1.1.2,Z0 h.1.2,Z0 h.2⟩
theorem inRange_any(L H U B M:Int)(a z:Option Addr)(al zl ca cz:Nat)(w:World):
 Calls prog 228 #[.agg #[Vi L,Vi H,Vi U,Vi B,Vi M,.slice a al ca,.slice z zl cz]] w (Rt w (.bool (ruB L H U B M))):=by
 have f1:=Ym L (-100000) 100000;have f2:=Ym H (-100000) 100000;have f3:=Ym U 0 1000;have f4:=Ym B 0 65536;have f5:=Ym M 1 4000
 unfold ruB
 generalize betw L (-100000) 100000=x1 at *;generalize betw H (-100000) 100000=x2 at *;generalize betw U 0 1000=x3 at *;generalize betw B 0 65536=x4 at *;generalize betw M 1 4000=x5 at*
 rcases(show x1=false∨(x1=true∧x2=false)∨(x1=true∧x2=true∧x3=false)∨(x1=true∧x2=true∧x3=true∧x4=false)∨(x1=true∧x2=true∧x3=true∧x4=true) by cases x1<;>cases x2<;>cases x3<;>cases x4<;>simp) with rfl|⟨rfl,rfl⟩|⟨rfl,rfl,rfl⟩|⟨rfl,rfl,rfl,rfl⟩|⟨rfl,rfl,rfl,rfl⟩
 all_goals
  go_enter func228,ntmps228
  go_wp2_with (first
   |((first|go_at_call_of 76 (Vi L)|go_at_call_of 76 (Value.int .i64 L));refine(f1 _).mono ?_;rintro e w' ⟨rfl,rfl⟩)
   |((first|go_at_call_of 76 (Vi H)|go_at_call_of 76 (Value.int .i64 H));refine(f2 _).mono ?_;rintro e w' ⟨rfl,rfl⟩)
   |((first|go_at_call_of 76 (Vi U)|go_at_call_of 76 (Value.int .i64 U));refine(f3 _).mono ?_;rintro e w' ⟨rfl,rfl⟩)
   |((first|go_at_call_of 76 (Vi B)|go_at_call_of 76 (Value.int .i64 B));refine(f4 _).mono ?_;rintro e w' ⟨rfl,rfl⟩)
   |((first|go_at_call_of 76 (Vi M)|go_at_call_of 76 (Value.int .i64 M));refine(f5 _).mono ?_;rintro e w' ⟨rfl,rfl⟩))
  go_ret;exact⟨by simp,by repeat (first|exact Zb _ _|refine Zc ?_ (Zb _ _))⟩
def gaU(z:List Int):Nat→Int
 |0=>0
 |k+1=>Zm [gaU z k,if betw (at0 z k) 0 65536 then 0 else 1]
theorem firstI_two(x y:Int):Zm [x,y]=if x=0 then y else x:=by
 simp only[Zm]
 by_cases h:y=0
 · rw[if_pos h,h]
 · rw[if_neg h]
theorem gaU_step(z:List Int)(k:Nat):gaU z (k+1)=if gaU z k=0 then(if betw (at0 z k) 0 65536 then 0 else 1) else gaU z k:=firstI_two _ _
theorem gaU_stay{z:List Int}(h:gaU z k≠0):∀m,k≤m→gaU z m=gaU z k:=by
 intro m hm
 induction m with
 |zero=>
  have:k=0:=by omega
  subst this;rfl
 |succ m ih=>
  by_cases e:k=m+1
  · subst e;rfl
  · have i:=ih (by omega);rw[gaU_step,i,if_neg h]
def r0E(L H U B M:Int)(al zl:List Int):Int:=Zm [if ruB L H U B M then 0 else 1,if H<L then 3 else 0,Ye al zl]
def ruE(L H U B M:Int)(al zl:List Int):Int:=if r0E L H U B M al zl=0 then gaU zl zl.length else r0E L H U B M al zl
def rkE(L H U B M:Int)(al zl:List Int)(k:Nat):Int:=if r0E L H U B M al zl=0 then gaU zl k else r0E L H U B M al zl
theorem rkE_zero(L H U B M:Int)(al zl:List Int):rkE L H U B M al zl 0=r0E L H U B M al zl:=by
 unfold rkE;split
 · rename_i h;rw[h];rfl
 · rfl
theorem rkE_step(L H U B M:Int)(al zl:List Int)(k:Nat):rkE L H U B M al zl (k+1)=Zm [rkE L H U B M al zl k,if betw (at0 zl k) 0 65536 then 0 else 1]:=by
 unfold rkE;split
 · rfl
 · rename_i h;simp only[Zm];rw[if_neg h]
theorem r0E_zero(h:r0E L H U B M al zl=0):ruB L H U B M=true∧L≤H∧Ye al zl=0:=by
 unfold r0E at h
 by_cases h1:ruB L H U B M=true
 · rw[if_pos h1] at h
   by_cases h2:H<L
   · rw[if_pos h2] at h;cases h
   · rw[if_neg h2] at h;refine⟨h1,by omega,?_⟩;simp only[Zm] at h;simp at h;exact Classical.byContradiction fun q=>q (h q)
 · rw[if_neg h1] at h;cases h
theorem X8(h:ruE L H U B M al zl=0):ruB L H U B M=true∧L≤H∧Ye al zl=0∧gaU zl zl.length=0:=by
 unfold ruE at h
 split at h
 · rename_i h0;obtain⟨a,b,c⟩:=r0E_zero h0;exact⟨a,b,c,h⟩
 · rename_i h0;exact absurd h h0
theorem Xt{Q:Nat}{W:World}(hb:Bw u u')(h:(u.cell? (Ad Q 0)=some (Vi L)∧u.cell? (Ad Q 1)=some (Vi H)∧u.cell? (Ad Q 2)=some (Vi U)∧u.cell? (Ad Q 3)=some (Vi B)∧u.cell? (Ad Q 4)=some (Vi M)∧u.cell? (Ad Q 5)=some (.slice a al.length ca)∧u.cell? (Ad Q 6)=some (.slice z zl.length cz))∧Lst u a al∧Lst u z zl∧Below Q W u):(u'.cell? (Ad Q 0)=some (Vi L)∧u'.cell? (Ad Q 1)=some (Vi H)∧u'.cell? (Ad Q 2)=some (Vi U)∧u'.cell? (Ad Q 3)=some (Vi B)∧u'.cell? (Ad Q 4)=some (Vi M)∧u'.cell? (Ad Q 5)=some (.slice a al.length ca)∧u'.cell? (Ad Q 6)=some (.slice z zl.length cz))∧Lst u' a al∧Lst u' z zl∧Below Q W u':=by
 obtain⟨⟨h0,h1,h2,h3,h4,h5,h6⟩,k1,k2,k3⟩:=h;have hs:=World.block_lt_of_cell? u ⟨Q,0,none⟩ h0;exact⟨⟨cell_later hb h0,cell_later hb h1,cell_later hb h2,cell_later hb h3,cell_later hb h4,cell_later hb h5,cell_later hb h6⟩,k1.later hb,k2.later hb,k3.trans (hb.mono (Nat.le_of_lt hs))⟩
theorem newHR(L H U B M:Int)(a z:Option Addr)(ca cz:Nat)(al zl:List Int)(w:World)(ha:Lst w a al)(hz:Lst w z zl):(fun u=>(Kc u w.heap.size 0 (Vi L)∧Kc u w.heap.size 1 (Vi H)∧Kc u w.heap.size 2 (Vi U)∧Kc u w.heap.size 3 (Vi B)∧Kc u w.heap.size 4 (Vi M)∧Kc u w.heap.size 5 (.slice a al.length ca)∧Kc u w.heap.size 6 (.slice z zl.length cz))∧Lst u a al∧Lst u z zl∧Bw w u) (w.alloc (.cells (Qar L H U B M a z al zl ca cz) 107)):=
 ⟨by refine⟨?_,?_,?_,?_,?_,?_,?_⟩<;>simp[go_sem],ha.later (Zb _ _),hz.later (Zb _ _),Zb _ _⟩
theorem Zja(L H U B M:Int)(a z:Option Addr)(ca cz:Nat)(al zl:List Int)(hm:al.length≤9223372036854775807)(hn:zl.length≤9223372036854775807)(hca:al.length≤ca)(w:World)(ha:Lst w a al)(hz:Lst w z zl):
 Calls prog 184 #[.agg (Qar L H U B M a z al zl ca cz)] w (Rt w (errV (ruE L H U B M al zl))):=by
 have hir:=inRange_any L H U B M a z al.length zl.length ca cz;have hck:=fun u (h1:Lst u a al) (h2:Lst u z zl)=>tcheck_any a z ca cz al zl u hm hn hca h1 h2;have HX:=Za (newHR L H U B M a z ca cz al zl w ha hz)
 dsimp only at HX
 clear ha hz
 by_cases h1:ruB L H U B M=true
 · rw[h1] at hir
   by_cases h2:H<L
   · have HE:=Za (show ruE L H U B M al zl=3 by unfold ruE r0E;rw[if_pos h1,if_pos h2];rfl);clear h1 hck
     go_enter func184,ntmps184
     go_wp2_with (first
      |(go_at_call 228;refine Sb (hir _) fun w1 hb1=>?_;have HX:=Za (Xt hb1 HX.out);obtain⟨⟨q0,q1,q2,q3,q4,q5,q6⟩,_⟩:=HX.out;clear hb1)
      |(go_at_call 229;refine Sb (hck _ HX.out.2.1 HX.out.2.2.1) fun w2 hb2=>?_;have HX:=Za (Xt hb2 HX.out);obtain⟨⟨q0,q1,q2,q3,q4,q5,q6⟩,_⟩:=HX.out;clear hb2))
     go_ret;exact⟨by rw[HE.out];rfl,HX.out.2.2.2⟩
   · by_cases h3:Ye al zl=0
     · have H0:=Za (show ruE L H U B M al zl=gaU zl zl.length by unfold ruE;rw[if_pos];unfold r0E;rw[if_pos h1,if_neg h2,h3];rfl);simp only[h3,Z2] at hck;clear h1 h3
       go_enter func184,ntmps184
       go_wp2_with (first
        |(go_at_call 228;refine Sb (hir _) fun w1 hb1=>?_;have HX:=Za (Xt hb1 HX.out);obtain⟨⟨q0,q1,q2,q3,q4,q5,q6⟩,_⟩:=HX.out;clear hb1)
        |(go_at_call 229;refine Sb (hck _ HX.out.2.1 HX.out.2.2.1) fun w2 hb2=>?_;have HX:=Za (Xt hb2 HX.out);obtain⟨⟨q0,q1,q2,q3,q4,q5,q6⟩,_⟩:=HX.out;clear hb2))
       go_loopw [28] (fun i wr=>∃k:Nat,k≤zl.length∧i=Vi k∧Hid (gaU zl k=0)∧Lst wr z zl∧Bw w wr) (fun i _=>zl.length-(intOf i).toNat)
       case atStart=>exact⟨0,Nat.zero_le _,rfl,rfl,HX.out.2.2.1,HX.out.2.2.2⟩
       case round=>
        clear HX q0 q1 q2 q3 q4 q5 q6;obtain⟨k,hk,rfl,hg,hl,hb⟩:=hrel
        by_cases hlt:k<zl.length
        · obtain⟨bz,oz,rfl,hcs⟩:=hl.at (Wq hlt);have hc:=hcs k hlt;have HL:=Za hl;have HB:=Za hb;have HT:=Za (gaU_step zl k);have hfr:=Wd (at0 zl k) 0 65536
          have j0:(0:Int)≤(k:Int):=by omega
          have j1:(k:Int)<(zl.length:Int):=by omega
          clear hcs hl hb
          by_cases hq:betw (at0 zl k) 0 65536=true
          · have HS:=Za (show gaU zl (k+1)=0 by rw[HT.out,if_pos hg.out,if_pos hq]);rw[hq] at hfr;clear hq HT;generalize at0 zl k=x at*
            go_wp2_with (go_at_call 76;refine Sb (hfr _) fun w3 hb3=>?_);go_roundw
            case rel=>exact⟨k+1,by omega,by go_num,HS,HL.out.later hb3,Zc HB.out hb3⟩
            case measure=>simp[intOf];omega
          · have hs1:gaU zl (k+1)=1:=by rw[HT.out,if_pos hg.out,if_neg hq]
            have HF:=Za (show ruE L H U B M al zl=1 by rw[H0.out,gaU_stay (k:=k+1) (by rw[hs1];decide) _ (by omega),hs1]);rw[show betw (at0 zl k) 0 65536=false by simpa using hq] at hfr;clear hq hs1 HT;generalize at0 zl k=x at*
            go_wp2_with (go_at_call 76;refine Sb (hfr _) fun w3 hb3=>?_);go_ret;exact⟨by rw[HF.out];rfl,Zc HB.out hb3⟩
        · have e:k=zl.length:=by omega
          subst e;go_wp2;go_ret;exact⟨by rw[H0.out,hg.out];rfl,hb⟩
     · have HE:=Za (show ruE L H U B M al zl=Ye al zl by
        have e:r0E L H U B M al zl=Ye al zl:=by unfold r0E;rw[if_pos h1,if_neg h2];simp only[Zm];simp[h3]
        unfold ruE;rw[e,if_neg h3])
       rw[HE.out];simp only[Z4 h3] at hck⊢;clear h1 h3 HE;generalize Ye al zl=E at*
       go_enter func184,ntmps184
       go_wp2_with (first
        |(go_at_call 228;refine Sb (hir _) fun w1 hb1=>?_;have HX:=Za (Xt hb1 HX.out);obtain⟨⟨q0,q1,q2,q3,q4,q5,q6⟩,_⟩:=HX.out;clear hb1)
        |(go_at_call 229;refine Sb (hck _ HX.out.2.1 HX.out.2.2.1) fun w2 hb2=>?_;have HX:=Za (Xt hb2 HX.out);obtain⟨⟨q0,q1,q2,q3,q4,q5,q6⟩,_⟩:=HX.out;clear hb2))
       go_ret;exact⟨rfl,HX.out.2.2.2⟩
 · have HE:=Za (show ruE L H U B M al zl=1 by unfold ruE r0E;rw[if_neg h1];rfl);rw[show ruB L H U B M=false by simpa using h1] at hir;clear h1 hck
   go_enter func184,ntmps184
   go_wp2_with (first
    |(go_at_call 228;refine Sb (hir _) fun w1 hb1=>?_;have HX:=Za (Xt hb1 HX.out);obtain⟨⟨q0,q1,q2,q3,q4,q5,q6⟩,_⟩:=HX.out;clear hb1)
    |(go_at_call 229;refine Sb (hck _ HX.out.2.1 HX.out.2.2.1) fun w2 hb2=>?_;have HX:=Za (Xt hb2 HX.out);obtain⟨⟨q0,q1,q2,q3,q4,q5,q6⟩,_⟩:=HX.out;clear hb2))
   go_ret;exact⟨by rw[HE.out];rfl,HX.out.2.2.2⟩
theorem holdRuleMay_any(L H U B M:Int)(a z:Option Addr)(ca cz:Nat)(al zl:List Int)(hm:al.length≤9223372036854775807)(hn:zl.length≤9223372036854775807)(w:World)(ha:Lst w a al)(hz:Lst w z zl):
 Calls prog 88 #[.agg (Qar L H U B M a z al zl ca cz)] w (Rt w (Vi (ruE L H U B M al zl))):=by
 have HX:=Za (newHR L H U B M a z ca cz al zl w ha hz)
 dsimp only at HX
 have hlm:∀u,(Kc u w.heap.size 0 (Vi L)∧Kc u w.heap.size 1 (Vi H)∧Kc u w.heap.size 2 (Vi U)∧Kc u w.heap.size 3 (Vi B)∧Kc u w.heap.size 4 (Vi M)∧Kc u w.heap.size 5 (.slice a al.length ca)∧Kc u w.heap.size 6 (.slice z zl.length cz))∧Lst u a al∧Lst u z zl∧Bw w u→Calls prog 140 #[.agg #[.slice a al.length ca,.slice z zl.length cz]] u fun r w'=>r=.returned (Vi (Ye al zl))∧Bw u w':=fun u h=>lineMay_any a z ca cz al zl u hm hn h.2.1 h.2.2.1;have h0E:=Za (show r0E L H U B M al zl=Zm [if ruB L H U B M then 0 else 1,if H<L then 3 else 0,Ye al zl] from rfl)
 have hw2:∀w,Calls prog 14 #[.bool (decide (H<L)),Vi 3] w (Re w (Vi (if H<L then 3 else 0))):=by
  intro w
  by_cases h:H<L
  · rw[decide_eq_true h,if_pos h];exact Ys 3 w
  · rw[decide_eq_false h,if_neg h];exact Xw 3 w
 have HZ:=Za (rkE_zero L H U B M al zl);have HF:=Za (show ruE L H U B M al zl=rkE L H U B M al zl zl.length from rfl);have HS:=Za (rkE_step L H U B M al zl);have hy:∃y:Int,y=if H<L then 3 else 0:=⟨_,rfl⟩;obtain⟨y,hy⟩:=hy;rw[←hy] at hw2 h0E;clear hy ha hz;have f1:=Zy L (-100000) 100000;have f2:=Zy H (-100000) 100000;have f3:=Zy U 0 1000;have f4:=Zy B 0 65536;have f5:=Zy M 1 4000
 unfold ruB at h0E
 generalize betw L (-100000) 100000=x1 at *;generalize betw H (-100000) 100000=x2 at *;generalize betw U 0 1000=x3 at *;generalize betw B 0 65536=x4 at *;generalize betw M 1 4000=x5 at*
 rcases(show x1=false∨(x1=true∧x2=false)∨(x1=true∧x2=true∧x3=false)∨(x1=true∧x2=true∧x3=true∧x4=false)∨(x1=true∧x2=true∧x3=true∧x4=true∧x5=false)∨(x1=true∧x2=true∧x3=true∧x4=true∧x5=true) by cases x1<;>cases x2<;>cases x3<;>cases x4<;>cases x5<;>simp) with rfl|⟨rfl,rfl⟩|⟨rfl,rfl,rfl⟩|⟨rfl,rfl,rfl,rfl⟩|⟨rfl,rfl,rfl,rfl,rfl⟩|⟨rfl,rfl,rfl,rfl,rfl⟩
 all_goals
  simp only[Bool.and_false,Bool.false_and,Bool.and_self,Bool.false_eq_true,if_false,if_true] at h0E;generalize Ye al zl=E at *;generalize r0E L H U B M al zl=e0 at*
  go_enter func88,ntmps88
  go_upto_region 2 with(first
   |((first|go_at_call_of 38 (Vi L)|go_at_call_of 38 (Value.int .i64 L));refine Sm (f1 _) ?_)
   |((first|go_at_call_of 38 (Vi H)|go_at_call_of 38 (Value.int .i64 H));refine Sm (f2 _) ?_)
   |((first|go_at_call_of 38 (Vi U)|go_at_call_of 38 (Value.int .i64 U));refine Sm (f3 _) ?_)
   |((first|go_at_call_of 38 (Vi B)|go_at_call_of 38 (Value.int .i64 B));refine Sm (f4 _) ?_)
   |((first|go_at_call_of 38 (Vi M)|go_at_call_of 38 (Value.int .i64 M));refine Sm (f5 _) ?_))
  obtain⟨w0,hw0⟩:∃w0,w.alloc (.cells (Qar L H U B M a z al zl ca cz) 107)=w0:=⟨_,rfl⟩;rw[hw0] at HX⊢;clear hw0;have S0:(Kc w0 w.heap.size 0 (Vi L)∧Kc w0 w.heap.size 1 (Vi H)∧Kc w0 w.heap.size 2 (Vi U)∧Kc w0 w.heap.size 3 (Vi B)∧Kc w0 w.heap.size 4 (Vi M)∧Kc w0 w.heap.size 5 (.slice a al.length ca)∧Kc w0 w.heap.size 6 (.slice z zl.length cz))∧Lst w0 a al∧Lst w0 z zl∧Bw w w0:=HX.out
  go_region_held3 (fun u=>(Kc u w.heap.size 0 (Vi L)∧Kc u w.heap.size 1 (Vi H)∧Kc u w.heap.size 2 (Vi U)∧Kc u w.heap.size 3 (Vi B)∧Kc u w.heap.size 4 (Vi M)∧Kc u w.heap.size 5 (.slice a al.length ca)∧Kc u w.heap.size 6 (.slice z zl.length cz))∧Lst u a al∧Lst u z zl∧Bw w u)
   (first
    |(with_reducible assumption)
    |(with_reducible refine Xt (Zb _ _) ?_;with_reducible assumption)
    |(with_reducible apply Xt;with_reducible assumption;with_reducible assumption)
    |(refine Xt ?_ HX.out;exact(Below.refl _ _).drew))
   (first
    |((first|go_at_call_of 14 (Vi 3)|go_at_call_of 14 (Value.int .i64 3));refine(hw2 _).mono ?_;rintro e w' ⟨rfl,rfl⟩)
    |(go_at_call_of 14 (Value.bool true);refine(Ys _ _).mono ?_;rintro e w' ⟨rfl,rfl⟩)
    |(go_at_call_of 14 (Value.bool false);refine(Xw _ _).mono ?_;rintro e w' ⟨rfl,rfl⟩)
    |(go_at_call 140;refine(hlm _ ?_).mono ?_;(with_reducible assumption);rintro e w' ⟨rfl,hb⟩)
    |(go_at_call 13;refine(first_new3 _ _ _ _ _).mono ?_;rintro e w' ⟨rfl,rfl⟩))
  all_goals
   rename_i hH
   have HX:=Za hH;obtain⟨⟨_,_,_,_,_,_,q6⟩,_⟩:=hH;clear hlm;go_wp2_with fail
   go_loopw [4,5] (fun e i wr=>∃k:Nat,k≤zl.length∧i=Vi k∧e=Vi (rkE L H U B M al zl k)∧((Kc wr w.heap.size 0 (Vi L)∧Kc wr w.heap.size 1 (Vi H)∧Kc wr w.heap.size 2 (Vi U)∧Kc wr w.heap.size 3 (Vi B)∧Kc wr w.heap.size 4 (Vi M)∧Kc wr w.heap.size 5 (.slice a al.length ca)∧Kc wr w.heap.size 6 (.slice z zl.length cz))∧Lst wr a al∧Lst wr z zl∧Bw w wr)) (fun _ i _=>zl.length-(intOf i).toNat)
   case atStart=>exact⟨0,Nat.zero_le _,rfl,by rw[HZ.out,h0E.out],HX.out⟩
   case round=>
    clear HX q6 HZ h0E;obtain⟨k,hk,rfl,rfl,hX⟩:=hrel;have HX:=Za hX;obtain⟨⟨_,_,_,_,_,_,q6⟩,_⟩:=hX
    by_cases hlt:k<zl.length
    · obtain⟨bz,oz,rfl,hcs⟩:=HX.out.2.2.1.at (Wq hlt);have hc:=hcs k hlt;have HT:=Za (HS.out k);have hbt:=Zy (at0 zl k) 0 65536
      have hwh:∀w,Calls prog 14 #[.bool (!betw (at0 zl k) 0 65536),Vi 1] w (Re w (Vi (if betw (at0 zl k) 0 65536 then 0 else 1))):=by
       intro w;cases betw (at0 zl k) 0 65536
       · exact Ys 1 w
       · exact Xw 1 w
      have j0:(0:Int)≤(k:Int):=by omega
      have j1:(k:Int)<(zl.length:Int):=by omega
      clear hcs;generalize (if betw (at0 zl k) 0 65536 then(0:Int) else 1)=t at *;generalize betw (at0 zl k) 0 65536=b at *;generalize at0 zl k=x at *;generalize rkE L H U B M al zl k=s at*
      go_wp2_with (first
       |(go_at_call 38;refine Sm (hbt _) ?_)
       |(go_at_call 14;refine Sm (hwh _) ?_)
       |(go_at_call 13;refine Sm (first_new2 _ _ _ _) ?_))
      go_roundw
      case rel=>exact⟨k+1,by omega,by go_num,by rw[HT.out],Xt (Zb _ _) HX.out⟩
      case measure=>simp[intOf];omega
    · have e:k=zl.length:=by omega
      subst e;go_wp2_with fail;go_ret;exact⟨by rw[HF.out];rfl,HX.out.2.2.2⟩
theorem W8{t:Int}(s0:2≤s)(s1:s≤4)(t0:1≤t)(t1:t≤1000):1≤(s-1)*t∧(s-1)*t≤3000:=by
 rcases(show s=2∨s=3∨s=4 by omega) with rfl|rfl|rfl<;>omega
theorem Mf(a0 a1 a2 a3 a4 a5 a6 a7 a8 a9 a10 a11 a14:Int)(p q:Option Addr)(n m cn cm:Nat)(w:World):
 Calls prog 104 #[.agg (Qah a0 a1 a2 a3 a4 a5 a6 a7 a8 a9 a10 a11 a14 p q n cn m cm)] w (Rt w (.agg #[Vi a8,Vi a9])):=by
 go_enter func104,ntmps104
 go_wp2;exact bodyPost_ret (v:=.agg #[Vi a8,Vi a9]) (by simp[results,results104,go_sem]) rfl ⟨rfl,Zc (Zb _ _) (Zb _ _)⟩
theorem Zdz(a0 a1 a2 a3 a4 a5 a6 a7 a8 a9 a10 a11 a14:Int)(p q:Option Addr)(n m cn cm:Nat)(w:World):
 Calls prog 49 #[.agg (Qah a0 a1 a2 a3 a4 a5 a6 a7 a8 a9 a10 a11 a14 p q n cn m cm)] w (Rt w (.agg #[Vi a8,Vi a9])):=by
 go_enter func49,ntmps49
 go_wp2;exact bodyPost_ret (v:=.agg #[Vi a8,Vi a9]) (by simp[results,results49,go_sem]) rfl ⟨rfl,Zc (Zb _ _) (Zb _ _)⟩
theorem Nt(a0 a1 a2 a3 a4 a5 a6 a7 a8 a9 a10 a11 a14:Int)(p q:Option Addr)(n m cn cm:Nat)(w:World):
 Calls prog 106 #[.agg (Qah a0 a1 a2 a3 a4 a5 a6 a7 a8 a9 a10 a11 a14 p q n cn m cm)] w (Rt w (.agg #[Vi a5,Vi a6,Vi a7,Vi a10])):=by
 go_enter func106,ntmps106
 go_wp2;exact bodyPost_ret (v:=.agg #[Vi a5,Vi a6,Vi a7,Vi a10]) (by simp[results,results106,go_sem]) rfl ⟨rfl,Zc (Zb _ _) (Zb _ _)⟩
theorem Mg(a0 a1 a2 a3 a4 a5 a6 a7 a8 a9 a10 a11 a14:Int)(p q:Option Addr)(n m cn cm:Nat)(w:World):
 Calls prog 46 #[.agg (Qah a0 a1 a2 a3 a4 a5 a6 a7 a8 a9 a10 a11 a14 p q n cn m cm)] w (Rt w (.agg #[Vi a5,Vi a6,Vi a7,Vi a10])):=by
 go_enter func46,ntmps46
 go_wp2;exact bodyPost_ret (v:=.agg #[Vi a5,Vi a6,Vi a7,Vi a10]) (by simp[results,results46,go_sem]) rfl ⟨rfl,Zc (Zb _ _) (Zb _ _)⟩
theorem Nu(a0 a1 a2 a3 a4 a5 a6 a7 a8 a9 a10 a11 a14:Int)(p q:Option Addr)(n m cn cm:Nat)(h4:2≤a4∧a4≤4)(h5:1≤a5∧a5≤1000)(h3:0≤a3∧a3≤1000)(h7:0≤a7∧a7≤1000)(h6:1≤a6∧a6≤1000)(w:World):
 Calls prog 170 #[.agg (Qah a0 a1 a2 a3 a4 a5 a6 a7 a8 a9 a10 a11 a14 p q n cn m cm)] w (Rt w (.agg #[Vi a0,Vi a1,Vi a2,Vi (a3+a7),Vi ((a4-1)*a5),Vi ((a4-1)*a6)])):=by
 obtain⟨x4,y4⟩:=h4;obtain⟨b50,b51⟩:=W8 x4 y4 h5.1 h5.2;have v5:=Wr ((a4-1)*a5)
 have v5':IntKind.i64.wrap (a5*(a4-1))=(a4-1)*a5:=by rw[Int.mul_comm];exact v5
 obtain⟨b60,b61⟩:=W8 x4 y4 h6.1 h6.2;obtain⟨x3,y3⟩:=h3;obtain⟨x7,y7⟩:=h7;have v6:=Wr ((a4-1)*a6)
 have v6':IntKind.i64.wrap (a6*(a4-1))=(a4-1)*a6:=by rw[Int.mul_comm];exact v6
 go_enter func170,ntmps170
 go_wp2;exact bodyPost_ret (v:=.agg #[Vi a0,Vi a1,Vi a2,Vi (a3+a7),Vi ((a4-1)*a5),Vi ((a4-1)*a6)]) (by simp[results,results170,go_sem]) rfl ⟨rfl,Zc (Zb _ _) (Zb _ _)⟩
theorem Zdt(a0 a1 a2 a3 a4 a5 a6 a7 a8 a9 a10 a11 a14:Int)(p q:Option Addr)(n m cn cm:Nat)(h4:2≤a4∧a4≤4)(h5:1≤a5∧a5≤1000)(h3:0≤a3∧a3≤1000)(h7:0≤a7∧a7≤1000)(h6:1≤a6∧a6≤1000)(w:World):
 Calls prog 40 #[.agg (Qah a0 a1 a2 a3 a4 a5 a6 a7 a8 a9 a10 a11 a14 p q n cn m cm)] w (Rt w (.agg #[Vi a0,Vi a1,Vi a2,Vi (a3+a7),Vi ((a4-1)*a5),Vi ((a4-1)*a6)])):=by
 obtain⟨x4,y4⟩:=h4;obtain⟨b50,b51⟩:=W8 x4 y4 h5.1 h5.2;have v5:=Wr ((a4-1)*a5)
 have v5':IntKind.i64.wrap (a5*(a4-1))=(a4-1)*a5:=by rw[Int.mul_comm];exact v5
 obtain⟨b60,b61⟩:=W8 x4 y4 h6.1 h6.2;obtain⟨x3,y3⟩:=h3;obtain⟨x7,y7⟩:=h7;have v6:=Wr ((a4-1)*a6)
 have v6':IntKind.i64.wrap (a6*(a4-1))=(a4-1)*a6:=by rw[Int.mul_comm];exact v6
 go_enter func40,ntmps40
 go_wp2;exact bodyPost_ret (v:=.agg #[Vi a0,Vi a1,Vi a2,Vi (a3+a7),Vi ((a4-1)*a5),Vi ((a4-1)*a6)]) (by simp[results,results40,go_sem]) rfl ⟨rfl,Zc (Zb _ _) (Zb _ _)⟩
theorem Zea(a0 a1 a2 a3 a4 a5 a6 a7 a8 a9 a10 a11 a14:Int)(p q:Option Addr)(n m cn cm:Nat)(h4:2≤a4∧a4≤4)(h5:1≤a5∧a5≤1000)(w:World):
 Calls prog 44 #[.agg (Qah a0 a1 a2 a3 a4 a5 a6 a7 a8 a9 a10 a11 a14 p q n cn m cm)] w (Rt w (.agg #[Vi a0,Vi a1,Vi a11,Vi a14,Vi ((a4-1)*a5),.slice p n cn,.slice q m cm])):=by
 obtain⟨x4,y4⟩:=h4;obtain⟨b50,b51⟩:=W8 x4 y4 h5.1 h5.2;have v5:=Wr ((a4-1)*a5)
 have v5':IntKind.i64.wrap (a5*(a4-1))=(a4-1)*a5:=by rw[Int.mul_comm];exact v5
 go_enter func44,ntmps44
 go_wp2;exact bodyPost_ret (v:=.agg #[Vi a0,Vi a1,Vi a11,Vi a14,Vi ((a4-1)*a5),.slice p n cn,.slice q m cm]) (by simp[results,results44,go_sem]) rfl ⟨rfl,Zc (Zb _ _) (Zb _ _)⟩
def Room7(w u:World):Prop:=((Kc u (w.heap.size+1) 0 (Vi 0)∧u.frozen? (Ad (w.heap.size+1) 0)=false)∧(Kc u (w.heap.size+1) 1 (Vi 0)∧u.frozen? (Ad (w.heap.size+1) 1)=false)∧(Kc u (w.heap.size+1) 2 (Vi 0)∧u.frozen? (Ad (w.heap.size+1) 2)=false)∧(Kc u (w.heap.size+1) 3 (Vi 0)∧u.frozen? (Ad (w.heap.size+1) 3)=false)∧(Kc u (w.heap.size+1) 4 (Vi 0)∧u.frozen? (Ad (w.heap.size+1) 4)=false)∧(Kc u (w.heap.size+1) 5 (.slice none 0 0)∧u.frozen? (Ad (w.heap.size+1) 5)=false)∧(Kc u (w.heap.size+1) 6 (.slice none 0 0)∧u.frozen? (Ad (w.heap.size+1) 6)=false))∧w.heap.size+1<u.heap.size
theorem Room7.later(h:Room7 w u)(hb:Bw u u'):Room7 w u':=by
 obtain⟨⟨⟨a0,b0⟩,⟨a1,b1⟩,⟨a2,b2⟩,⟨a3,b3⟩,⟨a4,b4⟩,⟨a5,b5⟩,a6,b6⟩,hl⟩:=h;have f:∀j,u'.frozen? (Ad (w.heap.size+1) j)=u.frozen? (Ad (w.heap.size+1) j):=fun j=>hb.frozen (p:=⟨w.heap.size+1,j,none⟩) hl;exact⟨⟨⟨cell_later hb a0,(f 0).trans b0⟩,⟨cell_later hb a1,(f 1).trans b1⟩,⟨cell_later hb a2,(f 2).trans b2⟩,⟨cell_later hb a3,(f 3).trans b3⟩,⟨cell_later hb a4,(f 4).trans b4⟩,⟨cell_later hb a5,(f 5).trans b5⟩,cell_later hb a6,(f 6).trans b6⟩,Nat.lt_of_lt_of_le hl hb.size⟩
def AxB(u:World)(B:Nat)(a0 a1 a2 a3 a4 a5 a6 a7 a8 a9 a10 a11 a14:Int)(p q:Option Addr)(n m cn cm:Nat):Prop:=(Kc u B 0 (Vi a0)∧Kc u B 1 (Vi a1)∧Kc u B 2 (Vi a2)∧Kc u B 3 (Vi a3)∧Kc u B 4 (Vi a4)∧Kc u B 5 (Vi a5)∧Kc u B 6 (Vi a6)∧Kc u B 7 (Vi a7)∧Kc u B 8 (Vi a8)∧Kc u B 9 (Vi a9)∧Kc u B 10 (Vi a10)∧Kc u B 11 (Vi a11)∧Kc u B 12 (.slice p n cn)∧Kc u B 13 (.slice q m cm)∧Kc u B 14 (Vi a14))
theorem AxB.later{B:Nat}{n:Nat}(h:AxB u B a0 a1 a2 a3 a4 a5 a6 a7 a8 a9 a10 a11 a14 p q n m cn cm)(hb:Bw u u'):AxB u' B a0 a1 a2 a3 a4 a5 a6 a7 a8 a9 a10 a11 a14 p q n m cn cm:=by
 obtain⟨c0,c1,c2,c3,c4,c5,c6,c7,c8,c9,c10,c11,c12,c13,c14⟩:=h;exact⟨cell_later hb c0,cell_later hb c1,cell_later hb c2,cell_later hb c3,cell_later hb c4,cell_later hb c5,cell_later hb c6,cell_later hb c7,cell_later hb c8,cell_later hb c9,cell_later hb c10,cell_later hb c11,cell_later hb c12,cell_later hb c13,cell_later hb c14⟩
theorem AxB.new(w:World)(a0 a1 a2 a3 a4 a5 a6 a7 a8 a9 a10 a11 a14:Int)(p q:Option Addr)(n m cn cm:Nat):AxB (w.alloc (.cells (Qah a0 a1 a2 a3 a4 a5 a6 a7 a8 a9 a10 a11 a14 p q n cn m cm) 26)) w.heap.size a0 a1 a2 a3 a4 a5 a6 a7 a8 a9 a10 a11 a14 p q n m cn cm:=by
 refine⟨?_,?_,?_,?_,?_,?_,?_,?_,?_,?_,?_,?_,?_,?_,?_⟩<;>simp[go_sem]
theorem W9{B j:Nat}{x:Value}{n:Nat}(hV:B≠V)(h:AxB u B a0 a1 a2 a3 a4 a5 a6 a7 a8 a9 a10 a11 a14 p q n m cn cm):AxB (u.setCell (Ad V j) x) B a0 a1 a2 a3 a4 a5 a6 a7 a8 a9 a10 a11 a14 p q n m cn cm:=by
 have f:∀i y,Kc u B i y→(u.setCell (Ad V j) x).cell? (Ad B i)=some y:=fun i y hy=>(World.cell?_setCell_other _ _ _ _ (fun e=>hV (congrArg Addr.block e).symm)).trans hy;obtain⟨c0,c1,c2,c3,c4,c5,c6,c7,c8,c9,c10,c11,c12,c13,c14⟩:=h;exact⟨f _ _ c0,f _ _ c1,f _ _ c2,f _ _ c3,f _ _ c4,f _ _ c5,f _ _ c6,f _ _ c7,f _ _ c8,f _ _ c9,f _ _ c10,f _ _ c11,f _ _ c12,f _ _ c13,f _ _ c14⟩
theorem axb_set7{B:Nat}{x0 x1 x2 x3 x4 x5 x6:Value}{n:Nat}(hV:B≠V)(h:(Kc u B 0 (Vi a0)∧Kc u B 1 (Vi a1)∧Kc u B 2 (Vi a2)∧Kc u B 3 (Vi a3)∧Kc u B 4 (Vi a4)∧Kc u B 5 (Vi a5)∧Kc u B 6 (Vi a6)∧Kc u B 7 (Vi a7)∧Kc u B 8 (Vi a8)∧Kc u B 9 (Vi a9)∧Kc u B 10 (Vi a10)∧Kc u B 11 (Vi a11)∧Kc u B 12 (.slice p n cn)∧Kc u B 13 (.slice q m cm)∧Kc u B 14 (Vi a14))):((((((((u.setCell (Ad V 0) x0).setCell (Ad V 1) x1).setCell (Ad V 2) x2).setCell (Ad V 3) x3).setCell (Ad V 4) x4).setCell (Ad V 5) x5).setCell (Ad V 6) x6).cell? (Ad B 0)=some (Vi a0)∧(((((((u.setCell (Ad V 0) x0).setCell (Ad V 1) x1).setCell (Ad V 2) x2).setCell (Ad V 3) x3).setCell (Ad V 4) x4).setCell (Ad V 5) x5).setCell (Ad V 6) x6).cell? (Ad B 1)=some (Vi a1)∧(((((((u.setCell (Ad V 0) x0).setCell (Ad V 1) x1).setCell (Ad V 2) x2).setCell (Ad V 3) x3).setCell (Ad V 4) x4).setCell (Ad V 5) x5).setCell (Ad V 6) x6).cell? (Ad B 2)=some (Vi a2)∧(((((((u.setCell (Ad V 0) x0).setCell (Ad V 1) x1).setCell (Ad V 2) x2).setCell (Ad V 3) x3).setCell (Ad V 4) x4).setCell (Ad V 5) x5).setCell (Ad V 6) x6).cell? (Ad B 3)=some (Vi a3)∧(((((((u.setCell (Ad V 0) x0).setCell (Ad V 1) x1).setCell (Ad V 2) x2).setCell (Ad V 3) x3).setCell (Ad V 4) x4).setCell (Ad V 5) x5).setCell (Ad V 6) x6).cell? (Ad B 4)=some (Vi a4)∧(((((((u.setCell (Ad V 0) x0).setCell (Ad V 1) x1).setCell (Ad V 2) x2).setCell (Ad V 3) x3).setCell (Ad V 4) x4).setCell (Ad V 5) x5).setCell (Ad V 6) x6).cell? (Ad B 5)=some (Vi a5)∧(((((((u.setCell (Ad V 0) x0).setCell (Ad V 1) x1).setCell (Ad V 2) x2).setCell (Ad V 3) x3).setCell (Ad V 4) x4).setCell (Ad V 5) x5).setCell (Ad V 6) x6).cell? (Ad B 6)=some (Vi a6)∧(((((((u.setCell (Ad V 0) x0).setCell (Ad V 1) x1).setCell (Ad V 2) x2).setCell (Ad V 3) x3).setCell (Ad V 4) x4).setCell (Ad V 5) x5).setCell (Ad V 6) x6).cell? (Ad B 7)=some (Vi a7)∧(((((((u.setCell (Ad V 0) x0).setCell (Ad V 1) x1).setCell (Ad V 2) x2).setCell (Ad V 3) x3).setCell (Ad V 4) x4).setCell (Ad V 5) x5).setCell (Ad V 6) x6).cell? (Ad B 8)=some (Vi a8)∧(((((((u.setCell (Ad V 0) x0).setCell (Ad V 1) x1).setCell (Ad V 2) x2).setCell (Ad V 3) x3).setCell (Ad V 4) x4).setCell (Ad V 5) x5).setCell (Ad V 6) x6).cell? (Ad B 9)=some (Vi a9)∧(((((((u.setCell (Ad V 0) x0).setCell (Ad V 1) x1).setCell (Ad V 2) x2).setCell (Ad V 3) x3).setCell (Ad V 4) x4).setCell (Ad V 5) x5).setCell (Ad V 6) x6).cell? (Ad B 10)=some (Vi a10)∧(((((((u.setCell (Ad V 0) x0).setCell (Ad V 1) x1).setCell (Ad V 2) x2).setCell (Ad V 3) x3).setCell (Ad V 4) x4).setCell (Ad V 5) x5).setCell (Ad V 6) x6).cell? (Ad B 11)=some (Vi a11)∧(((((((u.setCell (Ad V 0) x0).setCell (Ad V 1) x1).setCell (Ad V 2) x2).setCell (Ad V 3) x3).setCell (Ad V 4) x4).setCell (Ad V 5) x5).setCell (Ad V 6) x6).cell? (Ad B 12)=some (.slice p n cn)∧(((((((u.setCell (Ad V 0) x0).setCell (Ad V 1) x1).setCell (Ad V 2) x2).setCell (Ad V 3) x3).setCell (Ad V 4) x4).setCell (Ad V 5) x5).setCell (Ad V 6) x6).cell? (Ad B 13)=some (.slice q m cm)∧(((((((u.setCell (Ad V 0) x0).setCell (Ad V 1) x1).setCell (Ad V 2) x2).setCell (Ad V 3) x3).setCell (Ad V 4) x4).setCell (Ad V 5) x5).setCell (Ad V 6) x6).cell? (Ad B 14)=some (Vi a14)):=
 W9 hV (W9 hV (W9 hV (W9 hV (W9 hV (W9 hV (W9 hV h))))))
theorem field_gmost(x0 x1 x2 x3 x4 x5:Value)(w:World):(Instr.field 99 (.agg #[x0,x1,x2,x3,x4,x5]) 4).run prog w=.ok x4 w:=by kernel_rfl
theorem Mh(a0 a1 a2 a3 a4 a5 a6 a7 a8 a9 a10 a11 a14:Int)(p q:Option Addr)(n m cn cm:Nat)(h4:2≤a4∧a4≤4)(h5:1≤a5∧a5≤1000)(h3:0≤a3∧a3≤1000)(h7:0≤a7∧a7≤1000)(h6:1≤a6∧a6≤1000)(w:World):
 Calls prog 168 #[.agg (Qah a0 a1 a2 a3 a4 a5 a6 a7 a8 a9 a10 a11 a14 p q n cn m cm)] w (Rt w (.agg #[Vi a0,Vi a1,Vi a11,Vi a14,Vi ((a4-1)*a5),.slice p n cn,.slice q m cm])):=by
 have hgr:=fun u=>Nu a0 a1 a2 a3 a4 a5 a6 a7 a8 a9 a10 a11 a14 p q n m cn cm h4 h5 h3 h7 h6 u;have hfm:=field_gmost;have HZ:=Za ((AxB.new w a0 a1 a2 a3 a4 a5 a6 a7 a8 a9 a10 a11 a14 p q n m cn cm).later (Zb _ (.cells Qbr 107)));have HR:Hid (Room7 w ((w.alloc (.cells (Qah a0 a1 a2 a3 a4 a5 a6 a7 a8 a9 a10 a11 a14 p q n cn m cm) 26)).alloc (.cells Qbr 107))):=Za ⟨⟨⟨by simp[go_sem],by simp[go_sem]⟩,⟨by simp[go_sem],by simp[go_sem]⟩,⟨by simp[go_sem],by simp[go_sem]⟩,⟨by simp[go_sem],by simp[go_sem]⟩,⟨by simp[go_sem],by simp[go_sem]⟩,⟨by simp[go_sem],by simp[go_sem]⟩,by simp[go_sem],by simp[go_sem]⟩,by simp[go_sem]⟩;have HB:=Za (Zc (Zb w (.cells (Qah a0 a1 a2 a3 a4 a5 a6 a7 a8 a9 a10 a11 a14 p q n cn m cm) 26)) (Zb _ (.cells Qbr 107)))
 go_enter func168,ntmps168
 go_upto_region 1 with fail;generalize ((w.alloc (.cells (Qah a0 a1 a2 a3 a4 a5 a6 a7 a8 a9 a10 a11 a14 p q n cn m cm) 26)).alloc (.cells Qbr 107))=w1 at *;have Z:Hid ((Kc w1 w.heap.size 0 (Vi a0)∧Kc w1 w.heap.size 1 (Vi a1)∧Kc w1 w.heap.size 2 (Vi a2)∧Kc w1 w.heap.size 3 (Vi a3)∧Kc w1 w.heap.size 4 (Vi a4)∧Kc w1 w.heap.size 5 (Vi a5)∧Kc w1 w.heap.size 6 (Vi a6)∧Kc w1 w.heap.size 7 (Vi a7)∧Kc w1 w.heap.size 8 (Vi a8)∧Kc w1 w.heap.size 9 (Vi a9)∧Kc w1 w.heap.size 10 (Vi a10)∧Kc w1 w.heap.size 11 (Vi a11)∧Kc w1 w.heap.size 12 (.slice p n cn)∧Kc w1 w.heap.size 13 (.slice q m cm)∧Kc w1 w.heap.size 14 (Vi a14))):=HZ;have Zd:Hid ((w1.drew.cell? (Ad w.heap.size 0)=some (Vi a0)∧w1.drew.cell? (Ad w.heap.size 1)=some (Vi a1)∧w1.drew.cell? (Ad w.heap.size 2)=some (Vi a2)∧w1.drew.cell? (Ad w.heap.size 3)=some (Vi a3)∧w1.drew.cell? (Ad w.heap.size 4)=some (Vi a4)∧w1.drew.cell? (Ad w.heap.size 5)=some (Vi a5)∧w1.drew.cell? (Ad w.heap.size 6)=some (Vi a6)∧w1.drew.cell? (Ad w.heap.size 7)=some (Vi a7)∧w1.drew.cell? (Ad w.heap.size 8)=some (Vi a8)∧w1.drew.cell? (Ad w.heap.size 9)=some (Vi a9)∧w1.drew.cell? (Ad w.heap.size 10)=some (Vi a10)∧w1.drew.cell? (Ad w.heap.size 11)=some (Vi a11)∧w1.drew.cell? (Ad w.heap.size 12)=some (.slice p n cn)∧w1.drew.cell? (Ad w.heap.size 13)=some (.slice q m cm)∧w1.drew.cell? (Ad w.heap.size 14)=some (Vi a14))):=Za (HZ.out.later (Below.refl _ _).drew);have Ha:Hid (w.heap.size≠w.heap.size+1):=Za (by omega);obtain⟨c0,c1,c2,c3,c4,c5,c6,c7,c8,c9,c10,c11,c12,c13,c14⟩:=Z.out
 go_region_held3 (fun u=>(Kc u w.heap.size 0 (Vi a0)∧Kc u w.heap.size 1 (Vi a1)∧Kc u w.heap.size 2 (Vi a2)∧Kc u w.heap.size 3 (Vi a3)∧Kc u w.heap.size 4 (Vi a4)∧Kc u w.heap.size 5 (Vi a5)∧Kc u w.heap.size 6 (Vi a6)∧Kc u w.heap.size 7 (Vi a7)∧Kc u w.heap.size 8 (Vi a8)∧Kc u w.heap.size 9 (Vi a9)∧Kc u w.heap.size 10 (Vi a10)∧Kc u w.heap.size 11 (Vi a11)∧Kc u w.heap.size 12 (.slice p n cn)∧Kc u w.heap.size 13 (.slice q m cm)∧Kc u w.heap.size 14 (Vi a14)))
  (first
   |(with_reducible assumption)
   |(with_reducible exact Zd.out)
   |(with_reducible exact KS.out)
   |(with_reducible exact axb_set7 Ha.out KS.out))
  (first
   |(go_at_call 170;refine Sb (hgr _) fun w2 hb=>?_;have hb:=Zc (Below.refl _ w1).drew hb;have KS:Hid ((Kc w2 w.heap.size 0 (Vi a0)∧Kc w2 w.heap.size 1 (Vi a1)∧Kc w2 w.heap.size 2 (Vi a2)∧Kc w2 w.heap.size 3 (Vi a3)∧Kc w2 w.heap.size 4 (Vi a4)∧Kc w2 w.heap.size 5 (Vi a5)∧Kc w2 w.heap.size 6 (Vi a6)∧Kc w2 w.heap.size 7 (Vi a7)∧Kc w2 w.heap.size 8 (Vi a8)∧Kc w2 w.heap.size 9 (Vi a9)∧Kc w2 w.heap.size 10 (Vi a10)∧Kc w2 w.heap.size 11 (Vi a11)∧Kc w2 w.heap.size 12 (.slice p n cn)∧Kc w2 w.heap.size 13 (.slice q m cm)∧Kc w2 w.heap.size 14 (Vi a14))):=Za (HZ.out.later hb);have Hb:=Za (HR.out.later hb);have Hc:=Za (Zc HB.out hb);obtain⟨⟨⟨t0,u0⟩,⟨t1,u1⟩,⟨t2,u2⟩,⟨t3,u3⟩,⟨t4,u4⟩,⟨t5,u5⟩,t6,u6⟩,_⟩:=Hb.out;clear hb))
 all_goals
  go_wp2_with fail;refine bodyPost_ret (v:=.agg #[Vi a0,Vi a1,Vi a11,Vi a14,Vi ((a4-1)*a5),.slice p n cn,.slice q m cm]) (by simp[results,results168,go_sem, *]) rfl ⟨rfl,?_⟩;exact((((((Hc.out.setCell (by simp) _).setCell (by simp) _).setCell (by simp) _).setCell (by simp) _).setCell (by simp) _).setCell (by simp) _).setCell (by simp) _
def rgE(s p:Int):Int:=if betw s 2 4&&betw p 0 1000 then 0 else 1
theorem Ua{p:Int}(h:rgE s p=0):(2≤s∧s≤4)∧0≤p∧p≤1000:=by
 unfold rgE at h
 split at h
 · rename_i h'
   simp only[Bool.and_eq_true] at h';exact⟨Z0 h'.1,Z0 h'.2⟩
 · omega
def fmE(l n lo hi:Int):Int:=if l<2*n∨0<lo∨hi<0 then 3 else 0
theorem checkRange_any(a0 a1 a2 a3 a4 a5 a6 a7 a8 a9 a10 a11 a14:Int)(p q:Option Addr)(n m cn cm:Nat)(w:World):Calls prog 177 #[.agg (Qah a0 a1 a2 a3 a4 a5 a6 a7 a8 a9 a10 a11 a14 p q n cn m cm)] w (Rt w (errV (rgE a4 a3))):=by
 have f1:=Ym a4 2 4;have f2:=Ym a3 0 1000
 unfold rgE
 generalize betw a4 2 4=x1 at *;generalize betw a3 0 1000=x2 at*
 cases x1
 · go_enter func177,ntmps177
   go_wp2_with (first|((first|go_at_call_of 76 (Vi a4)|go_at_call_of 76 (Value.int .i64 a4));refine(f1 _).mono ?_;rintro e w' ⟨rfl,rfl⟩)|((first|go_at_call_of 76 (Vi a3)|go_at_call_of 76 (Value.int .i64 a3));refine(f2 _).mono ?_;rintro e w' ⟨rfl,rfl⟩));go_ret;exact⟨rfl,by repeat (first|exact Zb _ _|refine Zc ?_ (Zb _ _))⟩
 · cases x2
   · go_enter func177,ntmps177
     go_wp2_with (first|((first|go_at_call_of 76 (Vi a4)|go_at_call_of 76 (Value.int .i64 a4));refine(f1 _).mono ?_;rintro e w' ⟨rfl,rfl⟩)|((first|go_at_call_of 76 (Vi a3)|go_at_call_of 76 (Value.int .i64 a3));refine(f2 _).mono ?_;rintro e w' ⟨rfl,rfl⟩));go_ret;exact⟨rfl,by repeat (first|exact Zb _ _|refine Zc ?_ (Zb _ _))⟩
   · go_enter func177,ntmps177
     go_wp2_with (first|((first|go_at_call_of 76 (Vi a4)|go_at_call_of 76 (Value.int .i64 a4));refine(f1 _).mono ?_;rintro e w' ⟨rfl,rfl⟩)|((first|go_at_call_of 76 (Vi a3)|go_at_call_of 76 (Value.int .i64 a3));refine(f2 _).mono ?_;rintro e w' ⟨rfl,rfl⟩));go_ret;exact⟨rfl,by repeat (first|exact Zb _ _|refine Zc ?_ (Zb _ _))⟩
theorem checkForm_any(a0 a1 a2 a3 a4 a5 a6 a7 a8 a9 a10 a11 a14:Int)(p q:Option Addr)(n m cn cm:Nat)(hn:0≤a2∧a2≤1000)(w:World):Calls prog 186 #[.agg (Qah a0 a1 a2 a3 a4 a5 a6 a7 a8 a9 a10 a11 a14 p q n cn m cm)] w (Rt w (errV (fmE a8 a2 a0 a1))):=by
 obtain⟨n0,n1⟩:=hn
 unfold fmE
 by_cases h1:a8<2*a2
 · rw[if_pos (.inl h1),Z4 (by decide)]
   go_enter func186,ntmps186
   go_wp2;go_ret;exact⟨rfl,Zb _ _⟩
 · by_cases h2:0<a0
   · rw[if_pos (.inr (.inl h2)),Z4 (by decide)]
     go_enter func186,ntmps186
     go_wp2;go_ret;exact⟨rfl,Zb _ _⟩
   · by_cases h3:a1<0
     · rw[if_pos (.inr (.inr h3)),Z4 (by decide)]
       go_enter func186,ntmps186
       go_wp2;go_ret;exact⟨rfl,Zb _ _⟩
     · rw[if_neg (by omega),Z2]
       go_enter func186,ntmps186
       go_wp2;go_ret;exact⟨rfl,Zb _ _⟩
theorem clo1_any(a0 a1 a2 a3 a4 a5 a6 a7 a8 a9 a10 a11 a14:Int)(p q:Option Addr)(n m cn cm:Nat)(B:Nat)(u:World)(h:AxB u B a0 a1 a2 a3 a4 a5 a6 a7 a8 a9 a10 a11 a14 p q n m cn cm):
 Calls prog 176 #[.pointer (some (Ad B 0))] u (Rt u (errV (rgE a4 a3))):=by
 obtain⟨c0,c1,c2,c3,c4,c5,c6,c7,c8,c9,c10,c11,c12,c13,c14⟩:=h
 go_enter func176,ntmps176
 go_wp2_with (first
  |(go_at_call 177;refine Sb (checkRange_any a0 a1 a2 a3 a4 a5 a6 a7 a8 a9 a10 a11 a14 p q n m cn cm _) fun w1 hb1=>?_))
 go_ret;exact⟨rfl,hb1⟩
theorem clo2_any(a0 a1 a2 a3 a4 a5 a6 a7 a8 a9 a10 a11 a14:Int)(p q:Option Addr)(n m cn cm:Nat)(B:Nat)(u:World)(h:AxB u B a0 a1 a2 a3 a4 a5 a6 a7 a8 a9 a10 a11 a14 p q n m cn cm):
 Calls prog 178 #[.pointer (some (Ad B 0))] u (Rt u (errV (Z7 a8 a9))):=by
 obtain⟨c0,c1,c2,c3,c4,c5,c6,c7,c8,c9,c10,c11,c12,c13,c14⟩:=h
 go_enter func178,ntmps178
 go_wp2_with (first
  |(go_at_call 104;refine Sb (Mf a0 a1 a2 a3 a4 a5 a6 a7 a8 a9 a10 a11 a14 p q n m cn cm _) fun w1 hb1=>?_)
  |(go_at_call 117;refine Sb (Ma a8 a9 _) fun w2 hb2=>?_))
 go_ret;exact⟨rfl,Zc hb1 hb2⟩
theorem clo3_any(a0 a1 a2 a3 a4 a5 a6 a7 a8 a9 a10 a11 a14:Int)(p q:Option Addr)(n m cn cm:Nat)(B:Nat)(u:World)(h:AxB u B a0 a1 a2 a3 a4 a5 a6 a7 a8 a9 a10 a11 a14 p q n m cn cm):
 Calls prog 179 #[.pointer (some (Ad B 0))] u (Rt u (errV (arE a5 a6 a7 a10))):=by
 obtain⟨c0,c1,c2,c3,c4,c5,c6,c7,c8,c9,c10,c11,c12,c13,c14⟩:=h
 go_enter func179,ntmps179
 go_wp2_with (first
  |(go_at_call 106;refine Sb (Nt a0 a1 a2 a3 a4 a5 a6 a7 a8 a9 a10 a11 a14 p q n m cn cm _) fun w1 hb1=>?_)
  |(go_at_call 180;refine Sb (N8 a5 a6 a7 a10 _) fun w2 hb2=>?_))
 go_ret;exact⟨rfl,Zc hb1 hb2⟩
theorem clo4_any(a0 a1 a2 a3 a4 a5 a6 a7 a8 a9 a10 a11 a14:Int)(p q:Option Addr)(n m cn cm:Nat)(h4:2≤a4∧a4≤4)(h5:1≤a5∧a5≤1000)(h3:0≤a3∧a3≤1000)(h7:0≤a7∧a7≤1000)(h6:1≤a6∧a6≤1000)(B:Nat)(u:World)(h:AxB u B a0 a1 a2 a3 a4 a5 a6 a7 a8 a9 a10 a11 a14 p q n m cn cm):
 Calls prog 181 #[.pointer (some (Ad B 0))] u (Rt u (errV (grE a0 a1 a2 (a3+a7) ((a4-1)*a5) ((a4-1)*a6)))):=by
 obtain⟨c0,c1,c2,c3,c4,c5,c6,c7,c8,c9,c10,c11,c12,c13,c14⟩:=h
 go_enter func181,ntmps181
 go_wp2_with (first
  |(go_at_call 170;refine Sb (Nu a0 a1 a2 a3 a4 a5 a6 a7 a8 a9 a10 a11 a14 p q n m cn cm h4 h5 h3 h7 h6 _) fun w1 hb1=>?_)
  |(go_at_call 182;refine Sb (Zia a0 a1 a2 (a3+a7) ((a4-1)*a5) ((a4-1)*a6) _) fun w2 hb2=>?_))
 go_ret;exact⟨rfl,Zc hb1 hb2⟩
theorem clo5_any(a0 a1 a2 a3 a4 a5 a6 a7 a8 a9 a10 a11 a14:Int)(p q:Option Addr)(al zl:List Int)(cn cm:Nat)(h4:2≤a4∧a4≤4)(h5:1≤a5∧a5≤1000)(h3:0≤a3∧a3≤1000)(h7:0≤a7∧a7≤1000)(h6:1≤a6∧a6≤1000)(hm:al.length≤9223372036854775807)(hn:zl.length≤9223372036854775807)(hca:al.length≤cn)(B:Nat)(u:World)(h:AxB u B a0 a1 a2 a3 a4 a5 a6 a7 a8 a9 a10 a11 a14 p q al.length zl.length cn cm)(ha:Lst u p al)(hz:Lst u q zl):
 Calls prog 183 #[.pointer (some (Ad B 0))] u (Rt u (errV (ruE a0 a1 a11 a14 ((a4-1)*a5) al zl))):=by
 have HL:=Za (And.intro ha hz);clear ha hz;obtain⟨c0,c1,c2,c3,c4,c5,c6,c7,c8,c9,c10,c11,c12,c13,c14⟩:=h
 go_enter func183,ntmps183
 go_wp2_with (first
  |(go_at_call 168;refine Sb (Mh a0 a1 a2 a3 a4 a5 a6 a7 a8 a9 a10 a11 a14 p q al.length zl.length cn cm h4 h5 h3 h7 h6 _) fun w1 hb1=>?_)
  |(go_at_call 184;refine Sb (Zja a0 a1 a11 a14 ((a4-1)*a5) p q cn cm al zl hm hn hca _ (HL.out.1.later hb1) (HL.out.2.later hb1)) fun w2 hb2=>?_))
 go_ret;exact⟨rfl,Zc hb1 hb2⟩
theorem clo6_any(a0 a1 a2 a3 a4 a5 a6 a7 a8 a9 a10 a11 a14:Int)(p q:Option Addr)(n m cn cm:Nat)(hn:0≤a2∧a2≤1000)(B:Nat)(u:World)(h:AxB u B a0 a1 a2 a3 a4 a5 a6 a7 a8 a9 a10 a11 a14 p q n m cn cm):
 Calls prog 185 #[.pointer (some (Ad B 0))] u (Rt u (errV (fmE a8 a2 a0 a1))):=by
 obtain⟨c0,c1,c2,c3,c4,c5,c6,c7,c8,c9,c10,c11,c12,c13,c14⟩:=h
 go_enter func185,ntmps185
 go_wp2_with (first
  |(go_at_call 186;refine Sb (checkForm_any a0 a1 a2 a3 a4 a5 a6 a7 a8 a9 a10 a11 a14 p q n m cn cm hn _) fun w1 hb1=>?_))
 go_ret;exact⟨rfl,hb1⟩
theorem axisChecks_any(a0 a1 a2 a3 a4 a5 a6 a7 a8 a9 a10 a11 a14:Int)(p q:Option Addr)(n m cn cm:Nat)(w:World):Calls prog 115 #[.agg (Qah a0 a1 a2 a3 a4 a5 a6 a7 a8 a9 a10 a11 a14 p q n cn m cm)] w fun e w'=>e=.returned (.slice (some (Ad (w.heap.size+1) 0)) 6 6)∧w'=(w.alloc (.cells (Qah a0 a1 a2 a3 a4 a5 a6 a7 a8 a9 a10 a11 a14 p q n cn m cm) 26)).alloc (.cells #[.func (.func 176) #[] #[.pointer (some (Ad w.heap.size 0))],.func (.func 178) #[] #[.pointer (some (Ad w.heap.size 0))],.func (.func 179) #[] #[.pointer (some (Ad w.heap.size 0))],.func (.func 181) #[] #[.pointer (some (Ad w.heap.size 0))],.func (.func 183) #[] #[.pointer (some (Ad w.heap.size 0))],.func (.func 185) #[] #[.pointer (some (Ad w.heap.size 0))]] 142):=by
 go_enter func115,ntmps115
 go_wp2;go_ret;exact⟨rfl,rfl⟩
abbrev He:=Int×Int×Int
def heAt(l:List He)(k:Nat):He:=l.getD k (0,0,0)
def HLs(w:World)(a:Option Addr)(l:List He):Prop:=l=[]∨∃b off,a=some (Ad b off)∧∀k,k<l.length→Kc w b (off+k*3) (Vi (heAt l k).1)∧Kc w b (off+k*3+1) (Vi (heAt l k).2.1)∧Kc w b (off+k*3+2) (Vi (heAt l k).2.2)
theorem HLs.later{w':World}{l:List He}(h:HLs w a l)(hb:Bw w w'):HLs w' a l:=by
 rcases h with h|⟨b,off,h,hc⟩
 · exact .inl h
 · exact .inr ⟨b,off,h,fun k hk=>⟨cell_later hb (hc k hk).1,cell_later hb (hc k hk).2.1,cell_later hb (hc k hk).2.2⟩⟩
theorem HLs.at{l:List He}(h:HLs w a l)(hk:k<l.length):∃b off,a=some (Ad b off)∧Kc w b (off+k*3) (Vi (heAt l k).1)∧Kc w b (off+k*3+1) (Vi (heAt l k).2.1)∧Kc w b (off+k*3+2) (Vi (heAt l k).2.2):=by
 rcases h with h|⟨b,off,h,hc⟩
 · subst h;simp at hk
 · exact⟨b,off,h,hc k hk⟩
def weU(l:List He):Nat→Int
 |0=>0
 |k+1=>Zm [weU l k,heE (heAt l k).1 (heAt l k).2.1 (heAt l k).2.2]
def wlU(l:List He):Nat→Int
 |0=>0
 |k+1=>mxL (wlU l k) (lawI (heAt l k).1 (heAt l k).2.1 (heAt l k).2.2)
theorem weU_step(l:List He)(k:Nat):weU l (k+1)=if weU l k=0 then heE (heAt l k).1 (heAt l k).2.1 (heAt l k).2.2 else weU l k:=by
 simp only[weU,Zm]
 split
 · split
   · rename_i h;rw[h]
   · rfl
 · rfl
theorem weU_stay{l:List He}(h:weU l k≠0):∀m,k≤m→weU l m=weU l k:=by
 intro m hm
 induction m with
 |zero=>
  have:k=0:=by omega
  subst this;rfl
 |succ m ih=>
  by_cases e:k=m+1
  · subst e;rfl
  · have i:=ih (by omega);rw[weU_step,i,if_neg h]
def waI(l:List He):Int:=if weU l l.length=0 then wlU l l.length else 0
theorem wanted_any(l:List He)(a:Option Addr)(cap:Nat)(hl:l.length≤9223372036854775807)(w:World)(hv:HLs w a l):
 Calls prog 110 #[.slice a l.length cap] w (Rt w (.tuple #[Vi (waI l),errV (weU l l.length)])):=by
 have HV:=Za hv;clear hv
 go_enter func110,ntmps110
 go_wp2
 go_loopw [4,10] (fun s i wr=>∃k:Nat,k≤l.length∧i=Vi k∧s=Vi (wlU l k)∧Hid (weU l k=0)∧Bw w wr) (fun _ i _=>l.length-(intOf i).toNat)
 case atStart=>exact⟨0,Nat.zero_le _,rfl,rfl,rfl,Below.refl _ _⟩
 case round=>
  obtain⟨k,hk,rfl,rfl,hE,hb⟩:=hrel
  by_cases hlt:k<l.length
  · obtain⟨bl,ol,rfl,d0,d1,d2⟩:=(HV.out.later hb).at hlt;have HS:=Za (weU_step l k);have HL:=Za (show wlU l (k+1)=mxL (wlU l k) (lawI (heAt l k).1 (heAt l k).2.1 (heAt l k).2.2) from rfl)
    have j0:(0:Int)≤(k:Int):=by omega
    have j1:(k:Int)<(l.length:Int):=by omega
    have HB:=Za hb;clear hb
    by_cases hz:heE (heAt l k).1 (heAt l k).2.1 (heAt l k).2.2=0
    · have hc:=lawCheck_any (heAt l k).1 (heAt l k).2.1 (heAt l k).2.2;have hq:=asked_any (heAt l k).1 (heAt l k).2.1 (heAt l k).2.2 (heE_zero hz);have hm:=worse_any (wlU l k) (lawI (heAt l k).1 (heAt l k).2.1 (heAt l k).2.2);rw[hz,Z2] at hc;have HZ:=Za (show weU l (k+1)=0 by rw[HS.out,if_pos hE.out,hz]);clear hz HS;generalize mxL (wlU l k) (lawI (heAt l k).1 (heAt l k).2.1 (heAt l k).2.2)=m at *;generalize lawI (heAt l k).1 (heAt l k).2.1 (heAt l k).2.2=q at *;generalize wlU l k=s at *;generalize (heAt l k).1=x0 at *;generalize (heAt l k).2.1=x1 at *;generalize (heAt l k).2.2=x2 at*
      go_wp2_with (first
       |(go_at_call 162;refine Sb (hc _) fun w1 hb1=>?_;have c0:=cell_later hb1 (a:=⟨wr.heap.size,0,none⟩) (v:=Vi x0) (by simp[go_sem]);have c1:=cell_later hb1 (a:=⟨wr.heap.size,1,none⟩) (v:=Vi x1) (by simp[go_sem]);have c2:=cell_later hb1 (a:=⟨wr.heap.size,2,none⟩) (v:=Vi x2) (by simp[go_sem]))
       |(go_at_call 164;refine Sb (hq _) fun w2 hb2=>?_)
       |(go_at_call 163;refine Sb (hm _) fun w' hw=>?_;have hw:=hw.symm;subst hw))
      go_roundw
      case rel=>exact⟨k+1,by omega,by go_num,by rw[HL.out],HZ,Zc HB.out (Zc (Zb _ _) (Zc hb1 hb2))⟩
      case measure=>simp[intOf];omega
    · have hc:=lawCheck_any (heAt l k).1 (heAt l k).2.1 (heAt l k).2.2;rw[Z4 hz] at hc
      have hs:weU l (k+1)=heE (heAt l k).1 (heAt l k).2.1 (heAt l k).2.2:=by rw[HS.out,if_pos hE.out]
      have hf:weU l l.length=heE (heAt l k).1 (heAt l k).2.1 (heAt l k).2.2:=by rw[weU_stay (k:=k+1) (by rw[hs];exact hz) _ (by omega),hs]
      have HZ:=Za (show waI l=0∧errV (weU l l.length)=.iface 44 (Vi (heE (heAt l k).1 (heAt l k).2.1 (heAt l k).2.2)) by
       refine⟨?_,?_⟩
       · unfold waI;rw[if_neg (by rw[hf];exact hz)]
       · rw[hf,Z4 hz])
      clear hz HS hs hf;generalize heE (heAt l k).1 (heAt l k).2.1 (heAt l k).2.2=q at *;generalize wlU l k=s at *;generalize (heAt l k).1=x0 at *;generalize (heAt l k).2.1=x1 at *;generalize (heAt l k).2.2=x2 at*
      go_wp2_with (first
       |(go_at_call 162;refine Sb (hc _) fun w1 hb1=>?_))
      go_ret2;exact⟨by rw[HZ.out.1,HZ.out.2];rfl,Zc HB.out (Zc (Zb _ _) hb1)⟩
  · have e:k=l.length:=by omega
    subst e
    have HZ:=Za (show waI l=wlU l l.length∧errV (weU l l.length)=.nilIface by
     unfold waI;rw[if_pos hE.out,hE.out];exact⟨rfl,rfl⟩)
    generalize wlU l l.length=s at *;go_wp2;go_ret2;exact⟨by rw[HZ.out.1,HZ.out.2];rfl,hb⟩
def stB(L H M A D W:Int):Bool:=betw A L H&&betw D (-M) M&&betw W 0 3
def asB(M k n q:Int):Bool:=betw k (-100) 100&&betw n 0 3&&betw q (-M) M
theorem Up(h:stB L H M A D W=true):(L≤A∧A≤H)∧(-M≤D∧D≤M)∧0≤W∧W≤3:=by
 simp only[stB,Bool.and_eq_true] at h;exact⟨Z0 h.1.1,Z0 h.1.2,Z0 h.2⟩
theorem asB_true{k q:Int}(h:asB M k n q=true):(-100≤k∧k≤100)∧(0≤n∧n≤3)∧-M≤q∧q≤M:=by
 simp only[asB,Bool.and_eq_true] at h;exact⟨Z0 h.1.1,Z0 h.1.2,Z0 h.2⟩
def hoE(L H U B M:Int)(al zl:List Int)(A D W k n q:Int):Int:=if ruE L H U B M al zl=0 then(if stB L H M A D W then(if asB M k n q then 0 else 1) else 3) else ruE L H U B M al zl
theorem Wh{k q:Int}(h:hoE L H U B M al zl A D W k n q=0):ruE L H U B M al zl=0∧stB L H M A D W=true∧asB M k n q=true:=by
 unfold hoE at h
 split at h
 · rename_i h0
   split at h
   · rename_i h1
     split at h
     · rename_i h2;exact⟨h0,h1,h2⟩
     · cases h
   · cases h
 · rename_i h0;exact absurd h h0
theorem keepHS{k p v q:Int}(hb:Bw u u')(h:(Kc u w.heap.size 0 (Vi L)∧Kc u w.heap.size 1 (Vi H)∧Kc u w.heap.size 2 (Vi U)∧Kc u w.heap.size 3 (Vi B)∧Kc u w.heap.size 4 (Vi M)∧Kc u w.heap.size 5 (.slice a al.length ca)∧Kc u w.heap.size 6 (.slice z zl.length cz))∧(Kc u (w.heap.size+1) 0 (Vi A)∧Kc u (w.heap.size+1) 1 (Vi D)∧Kc u (w.heap.size+1) 2 (Vi W))∧(Kc u (w.heap.size+1+1) 0 (Vi k)∧Kc u (w.heap.size+1+1) 1 (Vi p)∧Kc u (w.heap.size+1+1) 2 (Vi v)∧Kc u (w.heap.size+1+1) 3 (Vi n)∧Kc u (w.heap.size+1+1) 4 (Vi q))∧Lst u a al∧Lst u z zl∧Bw w u):(Kc u' w.heap.size 0 (Vi L)∧Kc u' w.heap.size 1 (Vi H)∧Kc u' w.heap.size 2 (Vi U)∧Kc u' w.heap.size 3 (Vi B)∧Kc u' w.heap.size 4 (Vi M)∧Kc u' w.heap.size 5 (.slice a al.length ca)∧Kc u' w.heap.size 6 (.slice z zl.length cz))∧(Kc u' (w.heap.size+1) 0 (Vi A)∧Kc u' (w.heap.size+1) 1 (Vi D)∧Kc u' (w.heap.size+1) 2 (Vi W))∧(Kc u' (w.heap.size+1+1) 0 (Vi k)∧Kc u' (w.heap.size+1+1) 1 (Vi p)∧Kc u' (w.heap.size+1+1) 2 (Vi v)∧Kc u' (w.heap.size+1+1) 3 (Vi n)∧Kc u' (w.heap.size+1+1) 4 (Vi q))∧Lst u' a al∧Lst u' z zl∧Bw w u':=by
 obtain⟨⟨h0,h1,h2,h3,h4,h5,h6⟩,⟨s0,s1,s2⟩,⟨r0,r1,r2,r3,r4⟩,k1,k2,k3⟩:=h;exact⟨⟨cell_later hb h0,cell_later hb h1,cell_later hb h2,cell_later hb h3,cell_later hb h4,cell_later hb h5,cell_later hb h6⟩,⟨cell_later hb s0,cell_later hb s1,cell_later hb s2⟩,⟨cell_later hb r0,cell_later hb r1,cell_later hb r2,cell_later hb r3,cell_later hb r4⟩,k1.later hb,k2.later hb,Zc k3 hb⟩
theorem newHS(L H U B M:Int)(a z:Option Addr)(ca cz:Nat)(al zl:List Int)(A D W k p v n q:Int)(w:World)(ha:Lst w a al)(hz:Lst w z zl):(fun u=>(Kc u w.heap.size 0 (Vi L)∧Kc u w.heap.size 1 (Vi H)∧Kc u w.heap.size 2 (Vi U)∧Kc u w.heap.size 3 (Vi B)∧Kc u w.heap.size 4 (Vi M)∧Kc u w.heap.size 5 (.slice a al.length ca)∧Kc u w.heap.size 6 (.slice z zl.length cz))∧(Kc u (w.heap.size+1) 0 (Vi A)∧Kc u (w.heap.size+1) 1 (Vi D)∧Kc u (w.heap.size+1) 2 (Vi W))∧(Kc u (w.heap.size+1+1) 0 (Vi k)∧Kc u (w.heap.size+1+1) 1 (Vi p)∧Kc u (w.heap.size+1+1) 2 (Vi v)∧Kc u (w.heap.size+1+1) 3 (Vi n)∧Kc u (w.heap.size+1+1) 4 (Vi q))∧Lst u a al∧Lst u z zl∧Bw w u) (((w.alloc (.cells (Qar L H U B M a z al zl ca cz) 107)).alloc (.cells #[Vi A,Vi D,Vi W] 38)).alloc (.cells #[Vi k,Vi p,Vi v,Vi n,Vi q] 110)):=by
 refine⟨?_,?_,?_,((ha.later (Zb _ _)).later (Zb _ _)).later (Zb _ _),((hz.later (Zb _ _)).later (Zb _ _)).later (Zb _ _),Zc (Zc (Zb _ _) (Zb _ _)) (Zb _ _)⟩
 · refine⟨?_,?_,?_,?_,?_,?_,?_⟩<;>simp[go_sem]
 · refine⟨?_,?_,?_⟩<;>simp[go_sem]
 · refine⟨?_,?_,?_,?_,?_⟩<;>simp[go_sem]
theorem fixIn_any(x lo hi:Int)(w:World):
 Calls prog 128 #[Vi x,.agg #[Vi lo,Vi hi]] w (Rt w (.bool (betw x lo hi))):=
 (fixIn_ex x lo hi w).mono fun e w' h=>⟨h.1,by rw[h.2];exact Zb _ _⟩
theorem Ml(L H U B M:Int)(a z:Option Addr)(ca cz:Nat)(al zl:List Int)(A D W k p v n q:Int)(hm:al.length≤9223372036854775807)(hn:zl.length≤9223372036854775807)(hca:al.length≤ca)(w:World)(ha:Lst w a al)(hz:Lst w z zl):
 Calls prog 215 #[.agg (Qar L H U B M a z al zl ca cz),.agg #[Vi A,Vi D,Vi W],.agg #[Vi k,Vi p,Vi v,Vi n,Vi q]] w (Rt w (errV (hoE L H U B M al zl A D W k n q))):=by
 have hck:=fun u (h1:Lst u a al) (h2:Lst u z zl)=>Zja L H U B M a z ca cz al zl hm hn hca u h1 h2;have HX:=Za (newHS L H U B M a z ca cz al zl A D W k p v n q w ha hz)
 dsimp only at HX
 clear ha hz
 by_cases h0:ruE L H U B M al zl=0
 · obtain⟨_,_,_,_,m0,m1⟩:=X7 (X8 h0).1;have HE:=Za (show hoE L H U B M al zl A D W k n q=if stB L H M A D W then(if asB M k n q then 0 else 1) else 3 by unfold hoE;rw[if_pos h0]);simp only[h0,Z2] at hck;have f1:=fixIn_any A L H;have f2:=Wd D (-M) M;have f3:=U5 W;have f4:=Wd k (-100) 100;have f5:=U5 n;have f6:=Wd q (-M) M
   unfold stB asB at HE
   generalize hoE L H U B M al zl A D W k n q=E at *;clear h0;generalize betw A L H=x1 at *;generalize betw D (-M) M=x2 at *;generalize betw W 0 3=x3 at *;generalize betw k (-100) 100=y1 at *;generalize betw n 0 3=y2 at *;generalize betw q (-M) M=y3 at*
   rcases(show(E=3∧(x1=false∨(x1=true∧x2=false)∨(x1=true∧x2=true∧x3=false)))∨(E=1∧x1=true∧x2=true∧x3=true∧(y1=false∨(y1=true∧y2=false)∨(y1=true∧y2=true∧y3=false)))∨(E=0∧x1=true∧x2=true∧x3=true∧y1=true∧y2=true∧y3=true) by
    have:=HE.out;cases x1<;>cases x2<;>cases x3<;>cases y1<;>cases y2<;>cases y3<;>simp_all) with
    ⟨rfl,(rfl|⟨rfl,rfl⟩|⟨rfl,rfl,rfl⟩)⟩|⟨rfl,rfl,rfl,rfl,(rfl|⟨rfl,rfl⟩|⟨rfl,rfl,rfl⟩)⟩|⟨rfl,rfl,rfl,rfl,rfl,rfl,rfl⟩
   all_goals
    clear HE
    go_enter func215,ntmps215
    go_wp2_with (first
     |(go_at_call 184;refine Sb (hck _ HX.out.2.2.2.1 HX.out.2.2.2.2.1) fun w1 hb=>?_;have HX:=Za (keepHS hb HX.out);obtain⟨⟨q0,q1,q2,q3,q4,q5,q6⟩,⟨s0,s1,s2⟩,⟨r0,r1,r2,r3,r4⟩,_⟩:=HX.out;clear hb)
     |(go_at_call 128;refine Sb (f1 _) fun w2 hb=>?_;have HX:=Za (keepHS hb HX.out);obtain⟨⟨q0,q1,q2,q3,q4,q5,q6⟩,⟨s0,s1,s2⟩,⟨r0,r1,r2,r3,r4⟩,_⟩:=HX.out;clear hb)
     |((first|go_at_call_of 76 (Vi D)|go_at_call_of 76 (Value.int .i64 D));refine Sb (f2 _) fun w3 hb=>?_;have HX:=Za (keepHS hb HX.out);obtain⟨⟨q0,q1,q2,q3,q4,q5,q6⟩,⟨s0,s1,s2⟩,⟨r0,r1,r2,r3,r4⟩,_⟩:=HX.out;clear hb)
     |((first|go_at_call_of 165 (Vi W)|go_at_call_of 165 (Value.int .i64 W));refine Sb (f3 _) fun w4 hb=>?_;have HX:=Za (keepHS hb HX.out);obtain⟨⟨q0,q1,q2,q3,q4,q5,q6⟩,⟨s0,s1,s2⟩,⟨r0,r1,r2,r3,r4⟩,_⟩:=HX.out;clear hb)
     |((first|go_at_call_of 76 (Vi k)|go_at_call_of 76 (Value.int .i64 k));refine Sb (f4 _) fun w5 hb=>?_;have HX:=Za (keepHS hb HX.out);obtain⟨⟨q0,q1,q2,q3,q4,q5,q6⟩,⟨s0,s1,s2⟩,⟨r0,r1,r2,r3,r4⟩,_⟩:=HX.out;clear hb)
     |((first|go_at_call_of 165 (Vi n)|go_at_call_of 165 (Value.int .i64 n));refine Sb (f5 _) fun w6 hb=>?_;have HX:=Za (keepHS hb HX.out);obtain⟨⟨q0,q1,q2,q3,q4,q5,q6⟩,⟨s0,s1,s2⟩,⟨r0,r1,r2,r3,r4⟩,_⟩:=HX.out;clear hb)
     |((first|go_at_call_of 76 (Vi q)|go_at_call_of 76 (Value.int .i64 q));refine Sb (f6 _) fun w7 hb=>?_;have HX:=Za (keepHS hb HX.out);obtain⟨⟨q0,q1,q2,q3,q4,q5,q6⟩,⟨s0,s1,s2⟩,⟨r0,r1,r2,r3,r4⟩,_⟩:=HX.out;clear hb))
    go_ret;exact⟨rfl,HX.out.2.2.2.2.2⟩
 · have HE:=Za (show hoE L H U B M al zl A D W k n q=ruE L H U B M al zl by unfold hoE;rw[if_neg h0]);rw[HE.out];simp only[Z4 h0] at hck⊢;clear h0 HE;generalize ruE L H U B M al zl=E at*
   go_enter func215,ntmps215
   go_wp2_with (first
    |(go_at_call 184;refine Sb (hck _ HX.out.2.2.2.1 HX.out.2.2.2.2.1) fun w1 hb=>?_;have HX:=Za (keepHS hb HX.out);obtain⟨⟨q0,q1,q2,q3,q4,q5,q6⟩,⟨s0,s1,s2⟩,⟨r0,r1,r2,r3,r4⟩,_⟩:=HX.out;clear hb))
   go_ret;exact⟨rfl,HX.out.2.2.2.2.2⟩
end Go.Proofs.YtnfdfiholcelaaaGreatDoor
