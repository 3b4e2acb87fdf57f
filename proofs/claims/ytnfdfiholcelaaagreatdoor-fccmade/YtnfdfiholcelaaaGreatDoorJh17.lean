import Derived.OrdersHeld
import Derived.Test.YtnfdfiholcelaaaGreatDoorJh00
import Derived.Test.YtnfdfiholcelaaaGreatDoorJh02
import Derived.Test.YtnfdfiholcelaaaGreatDoorJh11
import Derived.Test.YtnfdfiholcelaaaGreatDoorJh12
import Derived.Test.YtnfdfiholcelaaaGreatDoorJh13
import Derived.Test.YtnfdfiholcelaaaGreatDoorJh15
import Derived.Test.YtnfdfiholcelaaaGreatDoorJh16
set_option maxRecDepth 100000
set_option maxHeartbeats 20000000
namespace Go.Proofs.YtnfdfiholcelaaaGreatDoor
open Go.RowKit Go.Sort Plain Tryz
def GS(w u:World)(L H N P M R:Int):Prop:=(u.cell? (Ad w.heap.size 0)=some (Vi L)∧u.cell? (Ad w.heap.size 1)=some (Vi H)∧u.cell? (Ad w.heap.size 2)=some (Vi N)∧u.cell? (Ad w.heap.size 3)=some (Vi P)∧u.cell? (Ad w.heap.size 4)=some (Vi M)∧u.cell? (Ad w.heap.size 5)=some (Vi R))∧(u.cell? (Ad (w.heap.size+1) 0)=some (Vi 0)∧u.cell? (Ad (w.heap.size+1) 1)=some (Vi 0)∧u.frozen? (Ad (w.heap.size+1) 0)=false∧u.frozen? (Ad (w.heap.size+1) 1)=false)∧Below w.heap.size w u
theorem Zcq{w w':World}{B j:Nat}{v:Value}(hb:Below w.heap.size w w')(h:w.cell? (Ad B j)=some v)(k:w.frozen? (Ad B j)=false):w'.frozen? (Ad B j)=false:=
 (hb.frozen (p:=⟨B,j,none⟩) (World.block_lt_of_cell? w _ h)).trans k
theorem r2_later{w u:World}{B:Nat}(h:(w.cell? (Ad B 0)=some (Vi 0)∧w.cell? (Ad B 1)=some (Vi 0)∧w.frozen? (Ad B 0)=false∧w.frozen? (Ad B 1)=false))(hb:Below w.heap.size w u):(u.cell? (Ad B 0)=some (Vi 0)∧u.cell? (Ad B 1)=some (Vi 0)∧u.frozen? (Ad B 0)=false∧u.frozen? (Ad B 1)=false):=
 ⟨Zak hb h.1,Zak hb h.2.1,Zcq hb h.1 h.2.2.1,Zcq hb h.2.1 h.2.2.2⟩
theorem GS.later{w u u':World}{L H N P M R:Int}(h:GS w u L H N P M R)(hb:Below u.heap.size u u'):GS w u' L H N P M R:=⟨B6.later h.1 hb,r2_later h.2.1 hb,Zac h.2.2 hb⟩
theorem keepGS{w u u':World}{L H N P M R:Int}(hb:Below u.heap.size u u')(h:(u.cell? (Ad w.heap.size 0)=some (Vi L)∧u.cell? (Ad w.heap.size 1)=some (Vi H)∧u.cell? (Ad w.heap.size 2)=some (Vi N)∧u.cell? (Ad w.heap.size 3)=some (Vi P)∧u.cell? (Ad w.heap.size 4)=some (Vi M)∧u.cell? (Ad w.heap.size 5)=some (Vi R))∧(u.cell? (Ad (w.heap.size+1) 0)=some (Vi 0)∧u.cell? (Ad (w.heap.size+1) 1)=some (Vi 0)∧u.frozen? (Ad (w.heap.size+1) 0)=false∧u.frozen? (Ad (w.heap.size+1) 1)=false)∧Below w.heap.size w u):(u'.cell? (Ad w.heap.size 0)=some (Vi L)∧u'.cell? (Ad w.heap.size 1)=some (Vi H)∧u'.cell? (Ad w.heap.size 2)=some (Vi N)∧u'.cell? (Ad w.heap.size 3)=some (Vi P)∧u'.cell? (Ad w.heap.size 4)=some (Vi M)∧u'.cell? (Ad w.heap.size 5)=some (Vi R))∧(u'.cell? (Ad (w.heap.size+1) 0)=some (Vi 0)∧u'.cell? (Ad (w.heap.size+1) 1)=some (Vi 0)∧u'.frozen? (Ad (w.heap.size+1) 0)=false∧u'.frozen? (Ad (w.heap.size+1) 1)=false)∧Below w.heap.size w u':=GS.later h hb
theorem GS.new(w:World)(L H N P M R:Int):GS w ((w.alloc (.cells #[Vi L,Vi H,Vi N,Vi P,Vi M,Vi R] 99)).alloc (.cells #[Vi 0,Vi 0] 105)) L H N P M R:=by
 refine⟨(B6.new w L H N P M R 99).later (Zaa _ _),⟨?_,?_,?_,?_⟩,Zac (Zaa _ _) (Zaa _ _)⟩<;>simp[go_sem]
def B7(u:World)(Q:Nat)(L H N P M R x:Int):Prop:=(u.cell? (Ad Q 0)=some (Vi L)∧u.cell? (Ad Q 1)=some (Vi H)∧u.cell? (Ad Q 2)=some (Vi N)∧u.cell? (Ad Q 3)=some (Vi P)∧u.cell? (Ad Q 4)=some (Vi M)∧u.cell? (Ad Q 5)=some (Vi R)∧u.cell? (Ad Q 6)=some (Vi x))
theorem B7.later{u u':World}{Q:Nat}{L H N P M R x:Int}(h:B7 u Q L H N P M R x)(hb:Below u.heap.size u u'):B7 u' Q L H N P M R x:=
 ⟨Zak hb h.1,Zak hb h.2.1,Zak hb h.2.2.1,Zak hb h.2.2.2.1,Zak hb h.2.2.2.2.1,Zak hb h.2.2.2.2.2.1,Zak hb h.2.2.2.2.2.2⟩
theorem keepG8{w u u':World}{Q:Nat}{L H N P M R y:Int}(hb:Below u.heap.size u u')(h:(u.cell? (Ad Q 0)=some (Vi L)∧u.cell? (Ad Q 1)=some (Vi H)∧u.cell? (Ad Q 2)=some (Vi N)∧u.cell? (Ad Q 3)=some (Vi P)∧u.cell? (Ad Q 4)=some (Vi M)∧u.cell? (Ad Q 5)=some (Vi R)∧u.cell? (Ad Q 6)=some (Vi y))∧Below w.heap.size w u):(u'.cell? (Ad Q 0)=some (Vi L)∧u'.cell? (Ad Q 1)=some (Vi H)∧u'.cell? (Ad Q 2)=some (Vi N)∧u'.cell? (Ad Q 3)=some (Vi P)∧u'.cell? (Ad Q 4)=some (Vi M)∧u'.cell? (Ad Q 5)=some (Vi R)∧u'.cell? (Ad Q 6)=some (Vi y))∧Below w.heap.size w u':=⟨B7.later h.1 hb,Zac h.2 hb⟩
theorem Zbn{w:World}{B Q i j:Nat}{v c:Value}(hQ:B≠Q)(h:w.cell? (Ad Q i)=some c):(w.setCell (Ad B j) v).cell? (Ad Q i)=some c:=by
 rw[World.cell?_setCell_other _ _ _ _ (fun e=>hQ (congrArg Addr.block e))];exact h
theorem keepG8s{w u:World}{Q j:Nat}{v:Value}{L H N P M R y:Int}(hQ:w.heap.size+1≠Q)(h:(u.cell? (Ad Q 0)=some (Vi L)∧u.cell? (Ad Q 1)=some (Vi H)∧u.cell? (Ad Q 2)=some (Vi N)∧u.cell? (Ad Q 3)=some (Vi P)∧u.cell? (Ad Q 4)=some (Vi M)∧u.cell? (Ad Q 5)=some (Vi R)∧u.cell? (Ad Q 6)=some (Vi y))∧Below w.heap.size w u):((u.setCell (Ad (w.heap.size+1) j) v).cell? (Ad Q 0)=some (Vi L)∧(u.setCell (Ad (w.heap.size+1) j) v).cell? (Ad Q 1)=some (Vi H)∧(u.setCell (Ad (w.heap.size+1) j) v).cell? (Ad Q 2)=some (Vi N)∧(u.setCell (Ad (w.heap.size+1) j) v).cell? (Ad Q 3)=some (Vi P)∧(u.setCell (Ad (w.heap.size+1) j) v).cell? (Ad Q 4)=some (Vi M)∧(u.setCell (Ad (w.heap.size+1) j) v).cell? (Ad Q 5)=some (Vi R)∧(u.setCell (Ad (w.heap.size+1) j) v).cell? (Ad Q 6)=some (Vi y))∧Below w.heap.size w (u.setCell (Ad (w.heap.size+1) j) v):=
 ⟨⟨Zbn hQ h.1.1,Zbn hQ h.1.2.1,Zbn hQ h.1.2.2.1,Zbn hQ h.1.2.2.2.1,Zbn hQ h.1.2.2.2.2.1,Zbn hQ h.1.2.2.2.2.2.1,Zbn hQ h.1.2.2.2.2.2.2⟩,h.2.setCell (by simp) _⟩
theorem keepG9{w u u':World}{Q:Nat}{L H N P M R y:Int}(hb:Below u.heap.size u u')(h:(u.cell? (Ad w.heap.size 0)=some (Vi L)∧u.cell? (Ad w.heap.size 1)=some (Vi H)∧u.cell? (Ad w.heap.size 2)=some (Vi N)∧u.cell? (Ad w.heap.size 3)=some (Vi P)∧u.cell? (Ad w.heap.size 4)=some (Vi M)∧u.cell? (Ad w.heap.size 5)=some (Vi R))∧(u.cell? (Ad Q 0)=some (Vi L)∧u.cell? (Ad Q 1)=some (Vi H)∧u.cell? (Ad Q 2)=some (Vi N)∧u.cell? (Ad Q 3)=some (Vi P)∧u.cell? (Ad Q 4)=some (Vi M)∧u.cell? (Ad Q 5)=some (Vi R)∧u.cell? (Ad Q 6)=some (Vi y))∧(u.cell? (Ad (w.heap.size+1) 0)=some (Vi 0)∧u.cell? (Ad (w.heap.size+1) 1)=some (Vi 0)∧u.frozen? (Ad (w.heap.size+1) 0)=false∧u.frozen? (Ad (w.heap.size+1) 1)=false)∧Below w.heap.size w u):(u'.cell? (Ad w.heap.size 0)=some (Vi L)∧u'.cell? (Ad w.heap.size 1)=some (Vi H)∧u'.cell? (Ad w.heap.size 2)=some (Vi N)∧u'.cell? (Ad w.heap.size 3)=some (Vi P)∧u'.cell? (Ad w.heap.size 4)=some (Vi M)∧u'.cell? (Ad w.heap.size 5)=some (Vi R))∧(u'.cell? (Ad Q 0)=some (Vi L)∧u'.cell? (Ad Q 1)=some (Vi H)∧u'.cell? (Ad Q 2)=some (Vi N)∧u'.cell? (Ad Q 3)=some (Vi P)∧u'.cell? (Ad Q 4)=some (Vi M)∧u'.cell? (Ad Q 5)=some (Vi R)∧u'.cell? (Ad Q 6)=some (Vi y))∧(u'.cell? (Ad (w.heap.size+1) 0)=some (Vi 0)∧u'.cell? (Ad (w.heap.size+1) 1)=some (Vi 0)∧u'.frozen? (Ad (w.heap.size+1) 0)=false∧u'.frozen? (Ad (w.heap.size+1) 1)=false)∧Below w.heap.size w u':=⟨B6.later h.1 hb,B7.later h.2.1 hb,r2_later h.2.2.1 hb,Zac h.2.2.2 hb⟩
theorem B7.new(w:World)(L H N P M R x:Int)(t:TypeId):B7 (w.alloc (.cells #[Vi L,Vi H,Vi N,Vi P,Vi M,Vi R,Vi x] t)) w.heap.size L H N P M R x:=by
 refine⟨?_,?_,?_,?_,?_,?_,?_⟩<;>simp[go_sem]
theorem gmE_ok{L H N P M R q:Int}(he:gmE L H N P M R q=0):GOK L H N P M R∧-M≤q∧q≤M:=by
 have he1:grE L H N P M R=0:=by unfold gmE at he;split at he<;>simp_all
 have hs:betw q (-M) M=true:=by
  unfold gmE at he;rw[if_pos he1] at he
  by_cases h:betw q (-M) M=true
  · exact h
  · rw[if_neg h] at he;cases he
 exact⟨grE_ok he1,(Zas hs).1,(Zas hs).2⟩
theorem gBounds_ok(L H N P M R x q:Int)(he:gmE L H N P M R q=0)(w:World):
 Calls prog 219 #[.agg #[Vi L,Vi H,Vi N,Vi P,Vi M,Vi R],Vi x,Vi q] w fun e w'=>(∃a b,e=.returned (.tuple #[.agg #[Vi (-a),Vi b],.nilIface])∧IsHi R P (-Zcp M R q) (-Zco M R q) (Zal x (-2000000) 2000000-N-L) a∧IsHi R P (Zco M R q) (Zcp M R q) (H-N-Zal x (-2000000) 2000000) b)∧Below w.heap.size w w':=by
 have hc:=checkMove_any L H N P M R q;rw[he,Zar] at hc;obtain⟨g,k0,k1⟩:=gmE_ok he;have HX:=Zab (GS.new w L H N P M R);have gg:=g;obtain⟨⟨l0,l1,h0,h1,n0,n1,p0,p1,m0,m1,r0,r1⟩,pm,pr,room⟩:=g;have hcl:=Zay x (-2000000) 2000000
 have x0:-2000000≤Zal x (-2000000) 2000000:=by unfold Zal;split<;>(try split)<;>(try split)<;>omega
 have x1:Zal x (-2000000) 2000000≤2000000:=by unfold Zal;split<;>(try split)<;>(try split)<;>omega
 have cn:=can_le r0 m0 k0 k1;have c0:=canLo_or M R q
 have mx:∀ts t w,(Builtin.max_ ts t #[Vi (q-R),Vi (-M)]).run prog w=.ok (Vi (Zco M R q)) w:=fun ts t w=>by rw[run_maxG];congr 2;unfold Zco;split<;>split<;>congr 1<;>omega
 have mn:∀ts t w,(Builtin.min_ ts t #[Vi (q+R),Vi M]).run prog w=.ok (Vi (Zcp M R q)) w:=fun ts t w=>by rw[run_minG];congr 2;unfold Zcp;split<;>split<;>congr 1<;>omega
 have v1:=Wr (q-R);have v2:=Wr (q+R);generalize Zal x (-2000000) 2000000=y at *;generalize Zco M R q=lo at *;generalize Zcp M R q=hi at *;obtain⟨cn0,cn1,cn2,cn3,cn4⟩:=cn;have v3:=Wr (-M);have v4:=Wr (-hi);have v5:=Wr (-lo);have hA:=highest_any 243 L H N P M R y (-hi) (-lo) (y-N-L) r0 (by omega) (by omega) (by omega) (enters_of func243 (by kernel_rfl) rfl) (stopsLo_any L H N P M R y gg.toGR x0 x1);have hB:=highest_any 244 L H N P M R y lo hi (H-N-y) r0 (by omega) (by omega) (by omega) (enters_of func244 (by kernel_rfl) rfl) (stopsHi_any L H N P M R y gg.toGR x0 x1);clear he room gg c0
 go_enter func219,ntmps219
 go_upto_region 4 with(go_at_call 241;refine Sb (hc _) fun w1 hb1=>?_;have HX:=Zab (HX.out.later hb1);obtain⟨⟨q0,q1,q2,q3,q4,q5⟩,⟨z0,z1,f0,f1⟩,_⟩:=HX.out;clear hb1);have S0:(w1.cell? (Ad w.heap.size 0)=some (Vi L)∧w1.cell? (Ad w.heap.size 1)=some (Vi H)∧w1.cell? (Ad w.heap.size 2)=some (Vi N)∧w1.cell? (Ad w.heap.size 3)=some (Vi P)∧w1.cell? (Ad w.heap.size 4)=some (Vi M)∧w1.cell? (Ad w.heap.size 5)=some (Vi R))∧(w1.cell? (Ad (w.heap.size+1) 0)=some (Vi 0)∧w1.cell? (Ad (w.heap.size+1) 1)=some (Vi 0)∧w1.frozen? (Ad (w.heap.size+1) 0)=false∧w1.frozen? (Ad (w.heap.size+1) 1)=false)∧Below w.heap.size w w1:=HX.out;have Z:=Zab S0
 go_region_held3 (fun u=>(u.cell? (Ad w.heap.size 0)=some (Vi L)∧u.cell? (Ad w.heap.size 1)=some (Vi H)∧u.cell? (Ad w.heap.size 2)=some (Vi N)∧u.cell? (Ad w.heap.size 3)=some (Vi P)∧u.cell? (Ad w.heap.size 4)=some (Vi M)∧u.cell? (Ad w.heap.size 5)=some (Vi R))∧(u.cell? (Ad (w.heap.size+1) 0)=some (Vi 0)∧u.cell? (Ad (w.heap.size+1) 1)=some (Vi 0)∧u.frozen? (Ad (w.heap.size+1) 0)=false∧u.frozen? (Ad (w.heap.size+1) 1)=false)∧Below w.heap.size w u)
  (first
   |(with_reducible assumption)
   |(with_reducible apply keepGS;with_reducible assumption;with_reducible assumption)
   |(refine keepGS ?_ Z.out;exact(Below.refl _ _).drew)
   |(refine keepGS ?_ Z.out;exact Zaa _ _)
   |(refine keepGS ?_ Z.out;exact(Zaa _ _).drew))
  (first
   |(go_at_call 172;refine(hcl _).mono ?_;rintro e w' ⟨rfl,rfl⟩))
 all_goals
  rename_i hH
  clear hH Z S0 q0 q1 q2 q3 q4 q5 z0 z1 f0 f1;have S1:(fun Q u=>(u.cell? (Ad w.heap.size 0)=some (Vi L)∧u.cell? (Ad w.heap.size 1)=some (Vi H)∧u.cell? (Ad w.heap.size 2)=some (Vi N)∧u.cell? (Ad w.heap.size 3)=some (Vi P)∧u.cell? (Ad w.heap.size 4)=some (Vi M)∧u.cell? (Ad w.heap.size 5)=some (Vi R))∧(u.cell? (Ad Q 0)=some (Vi L)∧u.cell? (Ad Q 1)=some (Vi H)∧u.cell? (Ad Q 2)=some (Vi N)∧u.cell? (Ad Q 3)=some (Vi P)∧u.cell? (Ad Q 4)=some (Vi M)∧u.cell? (Ad Q 5)=some (Vi R)∧u.cell? (Ad Q 6)=some (Vi y))∧(u.cell? (Ad (w.heap.size+1) 0)=some (Vi 0)∧u.cell? (Ad (w.heap.size+1) 1)=some (Vi 0)∧u.frozen? (Ad (w.heap.size+1) 0)=false∧u.frozen? (Ad (w.heap.size+1) 1)=false)∧Below w.heap.size w u) w1.heap.size (w1.alloc (.cells #[Vi L,Vi H,Vi N,Vi P,Vi M,Vi R,Vi y] 337)).drew:=
   ⟨(HX.out.later (Zaa _ _).drew).1,(B7.new w1 L H N P M R y 337).later (Below.refl _ _).drew,(HX.out.later (Zaa _ _).drew).2.1,(HX.out.later (Zaa _ _).drew).2.2⟩
  generalize (w1.alloc (.cells #[Vi L,Vi H,Vi N,Vi P,Vi M,Vi R,Vi y] 337)).drew=w2 at*
  have hQ:w.heap.size+1≠w1.heap.size:=by have:=World.block_lt_of_cell? w1 ⟨w.heap.size+1,0,none⟩ HX.out.2.1.1;simp at this;omega
  generalize w1.heap.size=Q at *;have Z:=Zab S1;clear HX S1
  go_upto_region 5 with fail;obtain⟨⟨q0,q1,q2,q3,q4,q5⟩,_⟩:=Z.out;have S0:(w2.cell? (Ad w.heap.size 0)=some (Vi L)∧w2.cell? (Ad w.heap.size 1)=some (Vi H)∧w2.cell? (Ad w.heap.size 2)=some (Vi N)∧w2.cell? (Ad w.heap.size 3)=some (Vi P)∧w2.cell? (Ad w.heap.size 4)=some (Vi M)∧w2.cell? (Ad w.heap.size 5)=some (Vi R))∧(w2.cell? (Ad Q 0)=some (Vi L)∧w2.cell? (Ad Q 1)=some (Vi H)∧w2.cell? (Ad Q 2)=some (Vi N)∧w2.cell? (Ad Q 3)=some (Vi P)∧w2.cell? (Ad Q 4)=some (Vi M)∧w2.cell? (Ad Q 5)=some (Vi R)∧w2.cell? (Ad Q 6)=some (Vi y))∧(w2.cell? (Ad (w.heap.size+1) 0)=some (Vi 0)∧w2.cell? (Ad (w.heap.size+1) 1)=some (Vi 0)∧w2.frozen? (Ad (w.heap.size+1) 0)=false∧w2.frozen? (Ad (w.heap.size+1) 1)=false)∧Below w.heap.size w w2:=Z.out
  go_region_held3 (fun u=>(u.cell? (Ad w.heap.size 0)=some (Vi L)∧u.cell? (Ad w.heap.size 1)=some (Vi H)∧u.cell? (Ad w.heap.size 2)=some (Vi N)∧u.cell? (Ad w.heap.size 3)=some (Vi P)∧u.cell? (Ad w.heap.size 4)=some (Vi M)∧u.cell? (Ad w.heap.size 5)=some (Vi R))∧(u.cell? (Ad Q 0)=some (Vi L)∧u.cell? (Ad Q 1)=some (Vi H)∧u.cell? (Ad Q 2)=some (Vi N)∧u.cell? (Ad Q 3)=some (Vi P)∧u.cell? (Ad Q 4)=some (Vi M)∧u.cell? (Ad Q 5)=some (Vi R)∧u.cell? (Ad Q 6)=some (Vi y))∧(u.cell? (Ad (w.heap.size+1) 0)=some (Vi 0)∧u.cell? (Ad (w.heap.size+1) 1)=some (Vi 0)∧u.frozen? (Ad (w.heap.size+1) 0)=false∧u.frozen? (Ad (w.heap.size+1) 1)=false)∧Below w.heap.size w u)
   (first
    |(with_reducible assumption)
    |(with_reducible apply keepG9;with_reducible assumption;with_reducible assumption)
    |(refine keepG9 ?_ Z.out;exact(Below.refl _ _).drew))
   (fail)
  all_goals
   rename_i hH
   clear hH S0 q0 q1 q2 q3 q4 q5;have S1:(fun u=>(u.cell? (Ad w.heap.size 0)=some (Vi L)∧u.cell? (Ad w.heap.size 1)=some (Vi H)∧u.cell? (Ad w.heap.size 2)=some (Vi N)∧u.cell? (Ad w.heap.size 3)=some (Vi P)∧u.cell? (Ad w.heap.size 4)=some (Vi M)∧u.cell? (Ad w.heap.size 5)=some (Vi R))∧(u.cell? (Ad Q 0)=some (Vi L)∧u.cell? (Ad Q 1)=some (Vi H)∧u.cell? (Ad Q 2)=some (Vi N)∧u.cell? (Ad Q 3)=some (Vi P)∧u.cell? (Ad Q 4)=some (Vi M)∧u.cell? (Ad Q 5)=some (Vi R)∧u.cell? (Ad Q 6)=some (Vi y))∧(u.cell? (Ad (w.heap.size+1) 0)=some (Vi 0)∧u.cell? (Ad (w.heap.size+1) 1)=some (Vi 0)∧u.frozen? (Ad (w.heap.size+1) 0)=false∧u.frozen? (Ad (w.heap.size+1) 1)=false)∧Below w.heap.size w u) w2.drew:=keepG9 (Below.refl _ _).drew Z.out;generalize w2.drew=w3 at *;clear Z;have Z:=Zab S1;clear S1
   go_upto_region 6 with fail;obtain⟨_,⟨q0,q1,q2,q3,q4,q5,q6⟩,⟨z0,z1,f0,f1⟩,_⟩:=Z.out;have S0:(w3.cell? (Ad Q 0)=some (Vi L)∧w3.cell? (Ad Q 1)=some (Vi H)∧w3.cell? (Ad Q 2)=some (Vi N)∧w3.cell? (Ad Q 3)=some (Vi P)∧w3.cell? (Ad Q 4)=some (Vi M)∧w3.cell? (Ad Q 5)=some (Vi R)∧w3.cell? (Ad Q 6)=some (Vi y))∧Below w.heap.size w w3:=⟨Z.out.2.1,Z.out.2.2.2⟩
   go_region_held3 (fun u=>(u.cell? (Ad Q 0)=some (Vi L)∧u.cell? (Ad Q 1)=some (Vi H)∧u.cell? (Ad Q 2)=some (Vi N)∧u.cell? (Ad Q 3)=some (Vi P)∧u.cell? (Ad Q 4)=some (Vi M)∧u.cell? (Ad Q 5)=some (Vi R)∧u.cell? (Ad Q 6)=some (Vi y))∧Below w.heap.size w u)
    (first
     |(with_reducible assumption)
     |(with_reducible apply keepG8;with_reducible assumption;with_reducible assumption)
     |(refine keepG8s ?_ (keepG8s ?_ ?_);with_reducible assumption;with_reducible assumption;with_reducible assumption)
     |(refine keepG8 ?_ ⟨Z.out.2.1,Z.out.2.2.2⟩;exact(Below.refl _ _).drew))
    (first
     |((first|go_at_call_of 242 (Vi (-hi))|go_at_call_of 242 (Value.int .i64 (-hi)));refine(hA _).mono ?_;rintro e w' ⟨⟨a,rfl,ha⟩,hb⟩;have HHA:=Zab ha;have va:IntKind.i64.wrap (-a)=-a:=Zio (by have:=ha.2.1;omega) (by have:=ha.1;omega);have ya0:w'.cell? (Ad (w.heap.size+1) 0)=some (Vi 0):=Zak hb (by first|with_reducible assumption|exact z0);have yaf0:w'.frozen? (Ad (w.heap.size+1) 0)=false:=Zcq hb (by first|with_reducible assumption|exact z0) (by first|with_reducible assumption|exact f0);have ya1:w'.cell? (Ad (w.heap.size+1) 1)=some (Vi 0):=Zak hb (by first|with_reducible assumption|exact z1);have yaf1:w'.frozen? (Ad (w.heap.size+1) 1)=false:=Zcq hb (by first|with_reducible assumption|exact z1) (by first|with_reducible assumption|exact f1);clear ha)
     |((first|go_at_call_of 242 (Vi lo)|go_at_call_of 242 (Value.int .i64 lo));refine(hB _).mono ?_;rintro e w' ⟨⟨b,rfl,hhb⟩,hb⟩;have HHB:=Zab hhb;have yb0:w'.cell? (Ad (w.heap.size+1) 0)=some (Vi 0):=Zak hb (by first|with_reducible assumption|exact z0);have ybf0:w'.frozen? (Ad (w.heap.size+1) 0)=false:=Zcq hb (by first|with_reducible assumption|exact z0) (by first|with_reducible assumption|exact f0);have yb1:w'.cell? (Ad (w.heap.size+1) 1)=some (Vi 0):=Zak hb (by first|with_reducible assumption|exact z1);have ybf1:w'.frozen? (Ad (w.heap.size+1) 1)=false:=Zcq hb (by first|with_reducible assumption|exact z1) (by first|with_reducible assumption|exact f1);clear hhb))
   all_goals
    rename_i hH
    have HB:=Zab hH.2;clear hH;go_wp2_with fail;refine bodyPost_ret (v:=.tuple #[.agg #[Vi (-a),Vi b],.nilIface]) ?_ rfl ⟨⟨a,b,rfl,HHA.out,HHB.out⟩,HB.out⟩
    simp[results,results219,go_sem,yb0,yb1]
end Go.Proofs.YtnfdfiholcelaaaGreatDoor
namespace Go.Proofs.YtnfdfiholcelaaaGreatDoor
open Go.RowKit Plain Tryz
theorem bounds_free(L H N P M R k p v n q:Int)(hn:betw n 0 1=false)(hq:-100000≤q∧q≤100000)(hR:-100000≤R∧R≤100000)(w:World):
 Calls prog 169 #[.agg #[Vi L,Vi H,Vi N,Vi P,Vi M,Vi R],.agg #[Vi k,Vi p,Vi v,Vi n,Vi q]] w fun e w'=>e=.returned (.tuple #[.agg #[Vi (q-R),Vi (q+R)],.nilIface])∧Below w.heap.size w w':=by
 have hg:=Zig n;rw[hn] at hg;obtain⟨q0,q1⟩:=hq;obtain⟨r0,r1⟩:=hR
 go_enter func169,ntmps169
 go_wp2_with (first
  |(go_at_call 216;refine(hg _).mono ?_;rintro e w' ⟨rfl,rfl⟩))
 exact bodyPost_ret (v:=.tuple #[.agg #[Vi (q-R),Vi (q+R)],.nilIface]) (by simp[results,results169,go_sem]) rfl ⟨rfl,Zac (Zac (Zaa _ _) (Zaa _ _)) (Zaa _ _)⟩
theorem bounds_kept(L H N P M R k p v n q:Int)(hn:betw n 0 1=true)(he:gmE L H N P M R q=0)(w:World):
 Calls prog 169 #[.agg #[Vi L,Vi H,Vi N,Vi P,Vi M,Vi R],.agg #[Vi k,Vi p,Vi v,Vi n,Vi q]] w fun e w'=>(∃a b,e=.returned (.tuple #[.agg #[Vi (-a),Vi b],.nilIface])∧IsHi R P (-Zcp M R q) (-Zco M R q) (Zal p (-2000000) 2000000-N-L) a∧IsHi R P (Zco M R q) (Zcp M R q) (H-N-Zal p (-2000000) 2000000) b)∧Below w.heap.size w w':=by
 have hg:=Zig n;rw[hn] at hg;have hb:=gBounds_ok L H N P M R p q he;clear he
 have HY:Hid (Blk 105 (((w.alloc (.cells #[Vi L,Vi H,Vi N,Vi P,Vi M,Vi R] 99)).alloc (.cells #[Vi k,Vi p,Vi v,Vi n,Vi q] 110)).alloc (.cells #[Vi 0,Vi 0] 105)) (w.heap.size+1+1) [Vi 0,Vi 0]):=Zab (by
  have:=Blk.new ((w.alloc (.cells #[Vi L,Vi H,Vi N,Vi P,Vi M,Vi R] 99)).alloc (.cells #[Vi k,Vi p,Vi v,Vi n,Vi q] 110)) 105 [Vi 0,Vi 0];rw[World.size_alloc,World.size_alloc] at this;exact this)
 have HB:Hid (Below w.heap.size w (((w.alloc (.cells #[Vi L,Vi H,Vi N,Vi P,Vi M,Vi R] 99)).alloc (.cells #[Vi k,Vi p,Vi v,Vi n,Vi q] 110)).alloc (.cells #[Vi 0,Vi 0] 105))):=Zab (Zac (Zac (Zaa _ _) (Zaa _ _)) (Zaa _ _))
 go_enter func169,ntmps169
 go_wp2_with (first
  |(go_at_call 216;refine(hg _).mono ?_;rintro e w' ⟨rfl,rfl⟩)
  |(go_at_call 219;refine(hb _).mono ?_;rintro e w1 ⟨⟨x,y,rfl,hx,hy⟩,hb1⟩;have HYv:=Zab (HY.out.later hb1);have HBv:=Zab (Zac HB.out hb1);have HX:=Zab hx;have HZ:=Zab hy;clear hx hy hb1 HY HB;have c0:=(HYv.out.cell (j:=0) rfl).1;have c1:=(HYv.out.cell (j:=1) rfl).1;have f0:=(HYv.out.cell (j:=0) rfl).2;have f1:=(HYv.out.cell (j:=1) rfl).2))
 exact bodyPost_ret (v:=.tuple #[.agg #[Vi (-x),Vi y],.nilIface]) (by simp[results,results169,go_sem,c0,c1]) rfl ⟨⟨x,y,rfl,HX.out,HZ.out⟩,(HBv.out.setCell (by simp;omega) _).setCell (by simp;omega) _⟩
def stB(L H M A D W:Int):Bool:=betw A L H&&betw D (-M) M&&betw W 0 3
def asB(M k n q:Int):Bool:=betw k (-100) 100&&betw n 0 3&&betw q (-M) M
theorem Zhg{L H M A D W:Int}(h:stB L H M A D W=true):(L≤A∧A≤H)∧(-M≤D∧D≤M)∧0≤W∧W≤3:=by
 simp only[stB,Bool.and_eq_true] at h;exact⟨Zas h.1.1,Zas h.1.2,Zas h.2⟩
theorem asB_true{M k n q:Int}(h:asB M k n q=true):(-100≤k∧k≤100)∧(0≤n∧n≤3)∧-M≤q∧q≤M:=by
 simp only[asB,Bool.and_eq_true] at h;exact⟨Zas h.1.1,Zas h.1.2,Zas h.2⟩
def hoE(L H U B M:Int)(al zl:List Int)(A D W k n q:Int):Int:=if ruE L H U B M al zl=0 then(if stB L H M A D W then(if asB M k n q then 0 else 1) else 3) else ruE L H U B M al zl
theorem Zec{L H U B M:Int}{al zl:List Int}{A D W k n q:Int}(h:hoE L H U B M al zl A D W k n q=0):ruE L H U B M al zl=0∧stB L H M A D W=true∧asB M k n q=true:=by
 unfold hoE at h
 split at h
 · rename_i h0
   split at h
   · rename_i h1
     split at h
     · rename_i h2;exact⟨h0,h1,h2⟩
     · cases h
   · cases h
 · rename_i h0;exact absurd h h0
theorem Zhx{w u u':World}{L H U B M:Int}{a z:Option Addr}{ca cz:Nat}{al zl:List Int}{A D W k p v n q:Int}(hb:Below u.heap.size u u')(h:(u.cell? (Ad w.heap.size 0)=some (Vi L)∧u.cell? (Ad w.heap.size 1)=some (Vi H)∧u.cell? (Ad w.heap.size 2)=some (Vi U)∧u.cell? (Ad w.heap.size 3)=some (Vi B)∧u.cell? (Ad w.heap.size 4)=some (Vi M)∧u.cell? (Ad w.heap.size 5)=some (.slice a al.length ca)∧u.cell? (Ad w.heap.size 6)=some (.slice z zl.length cz))∧(u.cell? (Ad (w.heap.size+1) 0)=some (Vi A)∧u.cell? (Ad (w.heap.size+1) 1)=some (Vi D)∧u.cell? (Ad (w.heap.size+1) 2)=some (Vi W))∧(u.cell? (Ad (w.heap.size+1+1) 0)=some (Vi k)∧u.cell? (Ad (w.heap.size+1+1) 1)=some (Vi p)∧u.cell? (Ad (w.heap.size+1+1) 2)=some (Vi v)∧u.cell? (Ad (w.heap.size+1+1) 3)=some (Vi n)∧u.cell? (Ad (w.heap.size+1+1) 4)=some (Vi q))∧Lst u a al∧Lst u z zl∧Below w.heap.size w u):(u'.cell? (Ad w.heap.size 0)=some (Vi L)∧u'.cell? (Ad w.heap.size 1)=some (Vi H)∧u'.cell? (Ad w.heap.size 2)=some (Vi U)∧u'.cell? (Ad w.heap.size 3)=some (Vi B)∧u'.cell? (Ad w.heap.size 4)=some (Vi M)∧u'.cell? (Ad w.heap.size 5)=some (.slice a al.length ca)∧u'.cell? (Ad w.heap.size 6)=some (.slice z zl.length cz))∧(u'.cell? (Ad (w.heap.size+1) 0)=some (Vi A)∧u'.cell? (Ad (w.heap.size+1) 1)=some (Vi D)∧u'.cell? (Ad (w.heap.size+1) 2)=some (Vi W))∧(u'.cell? (Ad (w.heap.size+1+1) 0)=some (Vi k)∧u'.cell? (Ad (w.heap.size+1+1) 1)=some (Vi p)∧u'.cell? (Ad (w.heap.size+1+1) 2)=some (Vi v)∧u'.cell? (Ad (w.heap.size+1+1) 3)=some (Vi n)∧u'.cell? (Ad (w.heap.size+1+1) 4)=some (Vi q))∧Lst u' a al∧Lst u' z zl∧Below w.heap.size w u':=by
 obtain⟨⟨h0,h1,h2,h3,h4,h5,h6⟩,⟨s0,s1,s2⟩,⟨r0,r1,r2,r3,r4⟩,k1,k2,k3⟩:=h;exact⟨⟨cell_later hb h0,cell_later hb h1,cell_later hb h2,cell_later hb h3,cell_later hb h4,cell_later hb h5,cell_later hb h6⟩,⟨cell_later hb s0,cell_later hb s1,cell_later hb s2⟩,⟨cell_later hb r0,cell_later hb r1,cell_later hb r2,cell_later hb r3,cell_later hb r4⟩,k1.later hb,k2.later hb,Zac k3 hb⟩
theorem newHS(L H U B M:Int)(a z:Option Addr)(ca cz:Nat)(al zl:List Int)(A D W k p v n q:Int)(w:World)(ha:Lst w a al)(hz:Lst w z zl):(fun u=>(u.cell? (Ad w.heap.size 0)=some (Vi L)∧u.cell? (Ad w.heap.size 1)=some (Vi H)∧u.cell? (Ad w.heap.size 2)=some (Vi U)∧u.cell? (Ad w.heap.size 3)=some (Vi B)∧u.cell? (Ad w.heap.size 4)=some (Vi M)∧u.cell? (Ad w.heap.size 5)=some (.slice a al.length ca)∧u.cell? (Ad w.heap.size 6)=some (.slice z zl.length cz))∧(u.cell? (Ad (w.heap.size+1) 0)=some (Vi A)∧u.cell? (Ad (w.heap.size+1) 1)=some (Vi D)∧u.cell? (Ad (w.heap.size+1) 2)=some (Vi W))∧(u.cell? (Ad (w.heap.size+1+1) 0)=some (Vi k)∧u.cell? (Ad (w.heap.size+1+1) 1)=some (Vi p)∧u.cell? (Ad (w.heap.size+1+1) 2)=some (Vi v)∧u.cell? (Ad (w.heap.size+1+1) 3)=some (Vi n)∧u.cell? (Ad (w.heap.size+1+1) 4)=some (Vi q))∧Lst u a al∧Lst u z zl∧Below w.heap.size w u) (((w.alloc (.cells #[Vi L,Vi H,Vi U,Vi B,Vi M,.slice a al.length ca,.slice z zl.length cz] 107)).alloc (.cells #[Vi A,Vi D,Vi W] 38)).alloc (.cells #[Vi k,Vi p,Vi v,Vi n,Vi q] 110)):=by
 refine⟨?_,?_,?_,((ha.later (Zaa _ _)).later (Zaa _ _)).later (Zaa _ _),((hz.later (Zaa _ _)).later (Zaa _ _)).later (Zaa _ _),Zac (Zac (Zaa _ _) (Zaa _ _)) (Zaa _ _)⟩
 · refine⟨?_,?_,?_,?_,?_,?_,?_⟩<;>simp[go_sem]
 · refine⟨?_,?_,?_⟩<;>simp[go_sem]
 · refine⟨?_,?_,?_,?_,?_⟩<;>simp[go_sem]
theorem fixIn_any(x lo hi:Int)(w:World):
 Calls prog 128 #[Vi x,.agg #[Vi lo,Vi hi]] w fun e w'=>e=.returned (.bool (betw x lo hi))∧Below w.heap.size w w':=
 (fixIn_ex x lo hi w).mono fun e w' h=>⟨h.1,by rw[h.2];exact Zaa _ _⟩
theorem Zhb(L H U B M:Int)(a z:Option Addr)(ca cz:Nat)(al zl:List Int)(A D W k p v n q:Int)(hm:al.length≤9223372036854775807)(hn:zl.length≤9223372036854775807)(hca:al.length≤ca)(w:World)(ha:Lst w a al)(hz:Lst w z zl):
 Calls prog 215 #[.agg #[Vi L,Vi H,Vi U,Vi B,Vi M,.slice a al.length ca,.slice z zl.length cz],.agg #[Vi A,Vi D,Vi W],.agg #[Vi k,Vi p,Vi v,Vi n,Vi q]] w fun e w'=>e=.returned (errV (hoE L H U B M al zl A D W k n q))∧Below w.heap.size w w':=by
 have hck:=fun u (h1:Lst u a al) (h2:Lst u z zl)=>Ziy L H U B M a z ca cz al zl hm hn hca u h1 h2;have HX:=Zab (newHS L H U B M a z ca cz al zl A D W k p v n q w ha hz)
 dsimp only at HX
 clear ha hz
 by_cases h0:ruE L H U B M al zl=0
 · obtain⟨_,_,_,_,m0,m1⟩:=Zdb (Zda h0).1;have HE:=Zab (show hoE L H U B M al zl A D W k n q=if stB L H M A D W then(if asB M k n q then 0 else 1) else 3 by unfold hoE;rw[if_pos h0]);simp only[h0,Zar] at hck;have f1:=fixIn_any A L H;have f2:=Zcw D (-M) M;have f3:=Zgv W;have f4:=Zcw k (-100) 100;have f5:=Zgv n;have f6:=Zcw q (-M) M
   unfold stB asB at HE
   generalize hoE L H U B M al zl A D W k n q=E at *;clear h0;generalize betw A L H=x1 at *;generalize betw D (-M) M=x2 at *;generalize betw W 0 3=x3 at *;generalize betw k (-100) 100=y1 at *;generalize betw n 0 3=y2 at *;generalize betw q (-M) M=y3 at*
   rcases(show(E=3∧(x1=false∨(x1=true∧x2=false)∨(x1=true∧x2=true∧x3=false)))∨(E=1∧x1=true∧x2=true∧x3=true∧(y1=false∨(y1=true∧y2=false)∨(y1=true∧y2=true∧y3=false)))∨(E=0∧x1=true∧x2=true∧x3=true∧y1=true∧y2=true∧y3=true) by
    have:=HE.out;cases x1<;>cases x2<;>cases x3<;>cases y1<;>cases y2<;>cases y3<;>simp_all) with
    ⟨rfl,(rfl|⟨rfl,rfl⟩|⟨rfl,rfl,rfl⟩)⟩|⟨rfl,rfl,rfl,rfl,(rfl|⟨rfl,rfl⟩|⟨rfl,rfl,rfl⟩)⟩|⟨rfl,rfl,rfl,rfl,rfl,rfl,rfl⟩
   all_goals
    clear HE
    go_enter func215,ntmps215
    go_wp2_with (first
     |(go_at_call 184;refine Sb (hck _ HX.out.2.2.2.1 HX.out.2.2.2.2.1) fun w1 hb=>?_;have HX:=Zab (Zhx hb HX.out);obtain⟨⟨q0,q1,q2,q3,q4,q5,q6⟩,⟨s0,s1,s2⟩,⟨r0,r1,r2,r3,r4⟩,_⟩:=HX.out;clear hb)
     |(go_at_call 128;refine Sb (f1 _) fun w2 hb=>?_;have HX:=Zab (Zhx hb HX.out);obtain⟨⟨q0,q1,q2,q3,q4,q5,q6⟩,⟨s0,s1,s2⟩,⟨r0,r1,r2,r3,r4⟩,_⟩:=HX.out;clear hb)
     |((first|go_at_call_of 76 (Vi D)|go_at_call_of 76 (Value.int .i64 D));refine Sb (f2 _) fun w3 hb=>?_;have HX:=Zab (Zhx hb HX.out);obtain⟨⟨q0,q1,q2,q3,q4,q5,q6⟩,⟨s0,s1,s2⟩,⟨r0,r1,r2,r3,r4⟩,_⟩:=HX.out;clear hb)
     |((first|go_at_call_of 165 (Vi W)|go_at_call_of 165 (Value.int .i64 W));refine Sb (f3 _) fun w4 hb=>?_;have HX:=Zab (Zhx hb HX.out);obtain⟨⟨q0,q1,q2,q3,q4,q5,q6⟩,⟨s0,s1,s2⟩,⟨r0,r1,r2,r3,r4⟩,_⟩:=HX.out;clear hb)
     |((first|go_at_call_of 76 (Vi k)|go_at_call_of 76 (Value.int .i64 k));refine Sb (f4 _) fun w5 hb=>?_;have HX:=Zab (Zhx hb HX.out);obtain⟨⟨q0,q1,q2,q3,q4,q5,q6⟩,⟨s0,s1,s2⟩,⟨r0,r1,r2,r3,r4⟩,_⟩:=HX.out;clear hb)
     |((first|go_at_call_of 165 (Vi n)|go_at_call_of 165 (Value.int .i64 n));refine Sb (f5 _) fun w6 hb=>?_;have HX:=Zab (Zhx hb HX.out);obtain⟨⟨q0,q1,q2,q3,q4,q5,q6⟩,⟨s0,s1,s2⟩,⟨r0,r1,r2,r3,r4⟩,_⟩:=HX.out;clear hb)
     |((first|go_at_call_of 76 (Vi q)|go_at_call_of 76 (Value.int .i64 q));refine Sb (f6 _) fun w7 hb=>?_;have HX:=Zab (Zhx hb HX.out);obtain⟨⟨q0,q1,q2,q3,q4,q5,q6⟩,⟨s0,s1,s2⟩,⟨r0,r1,r2,r3,r4⟩,_⟩:=HX.out;clear hb))
    go_ret;exact⟨rfl,HX.out.2.2.2.2.2⟩
 · have HE:=Zab (show hoE L H U B M al zl A D W k n q=ruE L H U B M al zl by unfold hoE;rw[if_neg h0]);rw[HE.out];simp only[Zbg h0] at hck⊢;clear h0 HE;generalize ruE L H U B M al zl=E at*
   go_enter func215,ntmps215
   go_wp2_with (first
    |(go_at_call 184;refine Sb (hck _ HX.out.2.2.2.1 HX.out.2.2.2.2.1) fun w1 hb=>?_;have HX:=Zab (Zhx hb HX.out);obtain⟨⟨q0,q1,q2,q3,q4,q5,q6⟩,⟨s0,s1,s2⟩,⟨r0,r1,r2,r3,r4⟩,_⟩:=HX.out;clear hb))
   go_ret;exact⟨rfl,HX.out.2.2.2.2.2⟩
def a1I(L H A W p n:Int):Int:=if n=W then A else Zal p L H
def a2I(L H U A W k p n:Int):Int:=Zal (a1I L H A W p n+hunI k U) L H
def ppI(L H U:Int)(al zl:List Int)(A W k p v n:Int):Int:=Zfq (Zfw al zl v) (a2I L H U A W k p n) p
def d2I(L H U M:Int)(al zl:List Int)(A D W k p v n q:Int):Int:=if n=W then D else Zal (q-ppI L H U al zl A W k p v n) (-M) M
def wtI(L H U M:Int)(al zl:List Int)(A D W k p v n q:Int):Int:=Zal (ppI L H U al zl A W k p v n+d2I L H U M al zl A D W k p v n q) (-M) M
def wX(L H U M:Int)(al zl:List Int)(A D W k p v n q:Int):Int:=if n≤1 then wtI L H U M al zl A D W k p v n q else if n=2 then hunI k M else 0
def wA(L H U A W k p n:Int):Int:=if n≤1 then a2I L H U A W k p n else A
def wD(L H U M:Int)(al zl:List Int)(A D W k p v n q:Int):Int:=if n≤1 then d2I L H U M al zl A D W k p v n q else D
def toD(B M A D p n want got:Int):Int:=if n=0∧got=want then Zal (D+Zfq B A p) (-M) M else D
theorem hline_lies{u:World}{a z:Option Addr}{al zl:List Int}(h:Zdw al zl=0)(ha:Lst u a al)(hz:Lst u z zl):∃ba oa bz oz,a=some (Ad ba oa)∧z=some (Ad bz oz)∧Line u ba oa bz oz al zl:=by
 obtain⟨hl,p,_⟩:=line_of h;have l2:=p.lo;obtain⟨ba,oa,e1,h1⟩:=ha.at (Zca (k:=0) (by omega));obtain⟨bz,oz,e2,h2⟩:=hz.at (Zca (k:=0) (by omega));exact⟨ba,oa,bz,oz,e1,e2,h,h1,h2⟩
theorem htwice{X G:Prop}(h:X→G)(x:X):G:=h x
def HW(w u:World)(L H U B M:Int)(a z:Option Addr)(la lz ca cz:Nat)(A D W k p v n q:Int):Prop:=(u.cell? (Ad w.heap.size 0)=some (Vi L)∧u.cell? (Ad w.heap.size 1)=some (Vi H)∧u.cell? (Ad w.heap.size 2)=some (Vi U)∧u.cell? (Ad w.heap.size 3)=some (Vi B)∧u.cell? (Ad w.heap.size 4)=some (Vi M)∧u.cell? (Ad w.heap.size 5)=some (.slice a la ca)∧u.cell? (Ad w.heap.size 6)=some (.slice z lz cz))∧(u.cell? (Ad (w.heap.size+1) 0)=some (Vi A)∧u.cell? (Ad (w.heap.size+1) 1)=some (Vi D)∧u.cell? (Ad (w.heap.size+1) 2)=some (Vi W))∧(u.cell? (Ad (w.heap.size+1+1) 0)=some (Vi k)∧u.cell? (Ad (w.heap.size+1+1) 1)=some (Vi p)∧u.cell? (Ad (w.heap.size+1+1) 2)=some (Vi v)∧u.cell? (Ad (w.heap.size+1+1) 3)=some (Vi n)∧u.cell? (Ad (w.heap.size+1+1) 4)=some (Vi q))∧(u.cell? (Ad (w.heap.size+1+1+1) 0)=some (Vi 0)∧u.cell? (Ad (w.heap.size+1+1+1) 1)=some (Vi 0)∧u.cell? (Ad (w.heap.size+1+1+1) 2)=some (Vi 0))∧(u.frozen? (Ad (w.heap.size+1) 0)=false∧u.frozen? (Ad (w.heap.size+1) 1)=false∧u.frozen? (Ad (w.heap.size+1) 2)=false)∧(u.frozen? (Ad (w.heap.size+1+1+1) 0)=false∧u.frozen? (Ad (w.heap.size+1+1+1) 1)=false∧u.frozen? (Ad (w.heap.size+1+1+1) 2)=false)∧Below w.heap.size w u
theorem Zck{w w':World}{Q j:Nat}{x:Value}(hb:Below w.heap.size w w')(h:w.cell? (Ad Q j)=some x)(k:w.frozen? (Ad Q j)=false):w'.frozen? (Ad Q j)=false:=
 (hb.frozen (p:=⟨Q,j,none⟩) (World.block_lt_of_cell? w _ h)).trans k
theorem Zaf{w w':World}{Q j:Nat}{x:Value}(hb:Below w.heap.size w w')(h:w.cell? (Ad Q j)=some x):w'.cell? (Ad Q j)=some x:=cell_later hb h
section
variable {w u u' : World} {L H U B M : Int} {a z : Option Addr} {la lz ca cz : Nat} {A D W k p v n q : Int}
theorem HW.later(h:HW w u L H U B M a z la lz ca cz A D W k p v n q)(hb:Below u.heap.size u u'):HW w u' L H U B M a z la lz ca cz A D W k p v n q:=by
 obtain⟨⟨q0,q1,q2,q3,q4,q5,q6⟩,⟨s0,s1,s2⟩,⟨r0,r1,r2,r3,r4⟩,⟨p0,p1,p2⟩,⟨g0,g1,g2⟩,⟨f0,f1,f2⟩,hB⟩:=h;exact⟨⟨Zaf hb q0,Zaf hb q1,Zaf hb q2,Zaf hb q3,Zaf hb q4,Zaf hb q5,Zaf hb q6⟩,⟨Zaf hb s0,Zaf hb s1,Zaf hb s2⟩,⟨Zaf hb r0,Zaf hb r1,Zaf hb r2,Zaf hb r3,Zaf hb r4⟩,⟨Zaf hb p0,Zaf hb p1,Zaf hb p2⟩,⟨Zck hb s0 g0,Zck hb s1 g1,Zck hb s2 g2⟩,⟨Zck hb p0 f0,Zck hb p1 f1,Zck hb p2 f2⟩,Zac hB hb⟩
theorem Zah{Q R i j:Nat}{x c:Value}(hQ:Q≠R)(h:u.cell? (Ad R i)=some c):(u.setCell (Ad Q j) x).cell? (Ad R i)=some c:=by
 rw[World.cell?_setCell_other _ _ _ _ (fun e=>hQ (congrArg Addr.block e))];exact h
theorem Zcg{Q i j:Nat}{x c:Value}(hQ:j≠i)(h:u.cell? (Ad Q i)=some c):(u.setCell (Ad Q j) x).cell? (Ad Q i)=some c:=by
 rw[World.cell?_setCell_other _ _ _ _ (fun e=>hQ (congrArg Addr.off e))];exact h
theorem Zfc{Q i:Nat}{x c:Value}(h:u.cell? (Ad Q i)=some c):(u.setCell (Ad Q i) x).cell? (Ad Q i)=some x:=by simp[go_sem,h]
theorem Zce{Q:Addr}{R i:Nat}{x:Value}(h:u.frozen? (Ad R i)=false):(u.setCell Q x).frozen? (Ad R i)=false:=by simpa[go_sem] using h
theorem HW.setA(h:HW w u L H U B M a z la lz ca cz A D W k p v n q)(x:Int):HW w (u.setCell (Ad (w.heap.size+1) 0) (Vi x)) L H U B M a z la lz ca cz x D W k p v n q:=by
 obtain⟨⟨q0,q1,q2,q3,q4,q5,q6⟩,⟨s0,s1,s2⟩,⟨r0,r1,r2,r3,r4⟩,⟨p0,p1,p2⟩,⟨g0,g1,g2⟩,⟨f0,f1,f2⟩,hB⟩:=h
 have n0:w.heap.size+1≠w.heap.size:=by omega
 have n2:w.heap.size+1≠w.heap.size+1+1:=by omega
 have n3:w.heap.size+1≠w.heap.size+1+1+1:=by omega
 exact⟨⟨Zah n0 q0,Zah n0 q1,Zah n0 q2,Zah n0 q3,Zah n0 q4,Zah n0 q5,Zah n0 q6⟩,⟨Zfc s0,Zcg (by decide) s1,Zcg (by decide) s2⟩,⟨Zah n2 r0,Zah n2 r1,Zah n2 r2,Zah n2 r3,Zah n2 r4⟩,⟨Zah n3 p0,Zah n3 p1,Zah n3 p2⟩,⟨Zce g0,Zce g1,Zce g2⟩,⟨Zce f0,Zce f1,Zce f2⟩,hB.setCell (by simp) _⟩
theorem HW.setD(h:HW w u L H U B M a z la lz ca cz A D W k p v n q)(x:Int):HW w (u.setCell (Ad (w.heap.size+1) 1) (Vi x)) L H U B M a z la lz ca cz A x W k p v n q:=by
 obtain⟨⟨q0,q1,q2,q3,q4,q5,q6⟩,⟨s0,s1,s2⟩,⟨r0,r1,r2,r3,r4⟩,⟨p0,p1,p2⟩,⟨g0,g1,g2⟩,⟨f0,f1,f2⟩,hB⟩:=h
 have n0:w.heap.size+1≠w.heap.size:=by omega
 have n2:w.heap.size+1≠w.heap.size+1+1:=by omega
 have n3:w.heap.size+1≠w.heap.size+1+1+1:=by omega
 exact⟨⟨Zah n0 q0,Zah n0 q1,Zah n0 q2,Zah n0 q3,Zah n0 q4,Zah n0 q5,Zah n0 q6⟩,⟨Zcg (by decide) s0,Zfc s1,Zcg (by decide) s2⟩,⟨Zah n2 r0,Zah n2 r1,Zah n2 r2,Zah n2 r3,Zah n2 r4⟩,⟨Zah n3 p0,Zah n3 p1,Zah n3 p2⟩,⟨Zce g0,Zce g1,Zce g2⟩,⟨Zce f0,Zce f1,Zce f2⟩,hB.setCell (by simp) _⟩
theorem HW.setW(h:HW w u L H U B M a z la lz ca cz A D W k p v n q)(x:Int):HW w (u.setCell (Ad (w.heap.size+1) 2) (Vi x)) L H U B M a z la lz ca cz A D x k p v n q:=by
 obtain⟨⟨q0,q1,q2,q3,q4,q5,q6⟩,⟨s0,s1,s2⟩,⟨r0,r1,r2,r3,r4⟩,⟨p0,p1,p2⟩,⟨g0,g1,g2⟩,⟨f0,f1,f2⟩,hB⟩:=h
 have n0:w.heap.size+1≠w.heap.size:=by omega
 have n2:w.heap.size+1≠w.heap.size+1+1:=by omega
 have n3:w.heap.size+1≠w.heap.size+1+1+1:=by omega
 exact⟨⟨Zah n0 q0,Zah n0 q1,Zah n0 q2,Zah n0 q3,Zah n0 q4,Zah n0 q5,Zah n0 q6⟩,⟨Zcg (by decide) s0,Zcg (by decide) s1,Zfc s2⟩,⟨Zah n2 r0,Zah n2 r1,Zah n2 r2,Zah n2 r3,Zah n2 r4⟩,⟨Zah n3 p0,Zah n3 p1,Zah n3 p2⟩,⟨Zce g0,Zce g1,Zce g2⟩,⟨Zce f0,Zce f1,Zce f2⟩,hB.setCell (by simp) _⟩
theorem HW.new(w:World)(L H U B M:Int)(a z:Option Addr)(la lz ca cz:Nat)(A D W k p v n q:Int):HW w ((((w.alloc (.cells #[Vi L,Vi H,Vi U,Vi B,Vi M,.slice a la ca,.slice z lz cz] 107)).alloc (.cells #[Vi A,Vi D,Vi W] 38)).alloc (.cells #[Vi k,Vi p,Vi v,Vi n,Vi q] 110)).alloc (.cells #[Vi 0,Vi 0,Vi 0] 38)) L H U B M a z la lz ca cz A D W k p v n q:=by
 refine⟨?_,?_,?_,?_,?_,?_,Zac (Zac (Zac (Zaa _ _) (Zaa _ _)) (Zaa _ _)) (Zaa _ _)⟩
 · refine⟨?_,?_,?_,?_,?_,?_,?_⟩<;>simp[go_sem]
 · refine⟨?_,?_,?_⟩<;>simp[go_sem]
 · refine⟨?_,?_,?_,?_,?_⟩<;>simp[go_sem]
 · refine⟨?_,?_,?_⟩<;>simp[go_sem]
 · refine⟨?_,?_,?_⟩<;>simp[go_sem]
 · refine⟨?_,?_,?_⟩<;>simp[go_sem]
end
def levF(T R:Int)(l:List Sv)(s:Int):Nat→Int
 |0=>-T
 |n+1=>if tot T R l (-T+((n+1:Nat):Int))≤s then -T+((n+1:Nat):Int) else levF T R l s n
def levI(T R:Int)(l:List Sv)(s:Int):Int:=levF T R l s (2*T).toNat
theorem levF_is{T R:Int}{l:List Sv}{s:Int}(h0:tot T R l (-T)≤s):∀n:Nat,-T+(n:Int)≤T→(-T+(n:Int)<T→s<tot T R l (-T+(n:Int)+1))→IsLev T R l s (levF T R l s n)
 |0,h1,h2=>by
  show IsLev T R l s (-T)
  exact⟨Int.le_refl _,by simpa using h1,h0,fun h=>by simpa using h2 (by simpa using h)⟩
 |n+1,h1,h2=>by
  unfold levF
  split
  · rename_i c
    exact⟨by omega,h1,c,h2⟩
  · rename_i c
    exact levF_is h0 n (by omega) (fun _=>by rw[show -T+(n:Int)+1=-T+((n+1:Nat):Int) by omega];omega)
theorem levI_is{T R:Int}{l:List Sv}{s:Int}(hT:0≤T)(h0:tot T R l (-T)≤s):IsLev T R l s (levI T R l s):=levF_is h0 _ (by omega) (fun h=>by omega)
def hiF(R p lo room:Int):Nat→Int
 |0=>lo
 |n+1=>if bk R (lo+((n+1:Nat):Int)+p)≤room then lo+((n+1:Nat):Int) else hiF R p lo room n
def hiI(R p lo hi room:Int):Int:=hiF R p lo room (hi-lo).toNat
theorem hiF_is{R p lo hi room:Int}:∀n:Nat,lo+(n:Int)≤hi→(∀s,lo+(n:Int)<s→s≤hi→room<bk R (s+p))→IsHi R p lo hi room (hiF R p lo room n)
 |0,h1,h2=>by
  show IsHi R p lo hi room lo
  exact⟨Int.le_refl _,by simpa using h1,.inl rfl,fun s h=>h2 s (by simpa using h)⟩
 |n+1,h1,h2=>by
  unfold hiF
  split
  · rename_i c
    exact⟨by omega,h1,.inr c,h2⟩
  · rename_i c
    refine hiF_is n (by omega) (fun s h3 h4=>?_)
    by_cases e:s=lo+((n+1:Nat):Int)
    · subst e;omega
    · exact h2 s (by omega) h4
theorem hiI_is{R p lo hi room h:Int}(H:IsHi R p lo hi room h):hiI R p lo hi room=h:=by
 have a:=H.1;have b:=H.2.1;exact(hiF_is (hi-lo).toNat (by omega) (fun s h3 h4=>by omega)).only H
def moI(C:CR)(i:Nat):Int:=(C.a i 4-1)*C.a i 5
def raI(C:CR)(i:Nat):Int:=(C.a i 4-1)*C.a i 6
def puI(C:CR)(i:Nat):Int:=C.a i 3+C.a i 7
def skI(l:List Rd)(i:Nat):Int:=Zal (smp l (32+(i:Int)) 3).2 (-100) 100
def pvI(C:CR)(i:Nat)(L:List Sv):Int:=Zal (smU L L.length) (-moI C i) (moI C i)
def wtM(C:CR)(i:Nat)(h:Int×Int×Int)(k x v n:Int)(L:List Sv):Int:=wX (C.a i 0) (C.a i 1) (C.a i 11) (moI C i) (C.al i) (C.zl i) h.1 h.2.1 h.2.2 k x v n (pvI C i L)
def haM(C:CR)(i:Nat)(h:Int×Int×Int)(k x n:Int):Int:=wA (C.a i 0) (C.a i 1) (C.a i 11) h.1 h.2.2 k x n
def hdM(C:CR)(i:Nat)(h:Int×Int×Int)(k x v n:Int)(L:List Sv):Int:=wD (C.a i 0) (C.a i 1) (C.a i 11) (moI C i) (C.al i) (C.zl i) h.1 h.2.1 h.2.2 k x v n (pvI C i L)
def bdL(C:CR)(i:Nat)(x n q:Int):Int:=if betw n 0 1 then -hiI (raI C i) (puI C i) (-Zcp (moI C i) (raI C i) q) (-Zco (moI C i) (raI C i) q) (Zal x (-2000000) 2000000-C.a i 2-C.a i 0) else q-raI C i
def bdH(C:CR)(i:Nat)(x n q:Int):Int:=if betw n 0 1 then hiI (raI C i) (puI C i) (Zco (moI C i) (raI C i) q) (Zcp (moI C i) (raI C i) q) (C.a i 1-C.a i 2-Zal x (-2000000) 2000000) else q+raI C i
def smI(T R:Int)(L:List Sv)(s:Int):Int:=Zal s (tot T R L (-T)) (tot T R L T)
def plI(T R:Int)(L:List Sv)(s:Int):List Int:=dlU T R L (levI T R L (smI T R L s)) (smI T R L s-tot T R L (levI T R L (smI T R L s))) L.length
theorem plI_len(T R:Int)(L:List Sv)(s:Int):(plI T R L s).length=L.length:=Zcn _ _ _ _ _ _
def sik(L:List Sv)(p:List Int)(k:Nat):List Sv:=(List.range L.length).map fun j=>if j<k then(p.getD j 0,(svAt L j).2) else svAt L j
theorem sik_len(L:List Sv)(p:List Int)(k:Nat):(sik L p k).length=L.length:=by simp[sik]
theorem sik_zero(L:List Sv)(p:List Int):sik L p 0=L:=by
 apply List.ext_getElem
 · simp[sik]
 · intro j h1 h2
   simp[sik,svAt,h2]
theorem sik_at(L:List Sv)(p:List Int){k:Nat}(hk:k<L.length):svAt (sik L p k) k=svAt L k:=by
 simp[sik,svAt,hk]
theorem sik_step(L:List Sv)(p:List Int){k:Nat}:(sik L p k).set k (p.getD k 0,(svAt L k).2)=sik L p (k+1):=by
 apply List.ext_getElem
 · simp[sik]
 · intro j h1 h2;simp only[sik,List.length_set,List.length_map,List.length_range] at h1;rw[List.getElem_set]
   by_cases e:k=j
   · subst e
     simp[sik]
   · rw[if_neg e];simp only[sik,List.getElem_map,List.getElem_range]
     by_cases h3:j<k
     · rw[if_pos h3,if_pos (by omega)]
     · rw[if_neg h3,if_neg (by omega)]
def goM(C:CR)(i:Nat)(h:Int×Int×Int)(k x v n:Int)(L:List Sv):Int:=Zal (wtM C i h k x v n L) (bdL C i x n (pvI C i L)) (bdH C i x n (pvI C i L))
def svM(C:CR)(i:Nat)(h:Int×Int×Int)(k x v n:Int)(L:List Sv):List Sv:=sik L (plI (C.a i 5) (C.a i 6) L (goM C i h k x v n L)) L.length
def hoM(C:CR)(i:Nat)(h:Int×Int×Int)(k x v n:Int)(L:List Sv):Int×Int×Int:=
 (haM C i h k x n,toD (C.a i 14) (moI C i) (haM C i h k x n) (hdM C i h k x v n L) x n (wtM C i h k x v n L) (smU (svM C i h k x v n L) L.length),n)
theorem hoE_want{L H U B M:Int}{al zl:List Int}{A D W k n q:Int}(p v:Int)(h:hoE L H U B M al zl A D W k n q=0):hoE L H U B M al zl (wA L H U A W k p n) (wD L H U M al zl A D W k p v n q) n k n q=0:=by
 obtain⟨e1,e2,e3⟩:=Zec h;obtain⟨e4,e5,e6,_⟩:=Zda e1;obtain⟨⟨l0,l1⟩,⟨u0,u1⟩,_,_,m0',m1'⟩:=Zdb e4;obtain⟨⟨a0,a1⟩,⟨d0,d1⟩,w0,w1⟩:=Zhg e2
 have hn:betw n 0 3=true:=by simp only[asB,Bool.and_eq_true] at e3;exact e3.1.2
 have ha:betw (wA L H U A W k p n) L H=true:=by
  unfold wA a2I
  have:=Zch (a1I L H A W p n+hunI k U) (show L≤H by omega)
  split<;>simp[betw]<;>omega
 have hd:betw (wD L H U M al zl A D W k p v n q) (-M) M=true:=by
  unfold wD d2I
  have:=Zch (q-ppI L H U al zl A W k p v n) (show -M≤M by omega)
  split
  · split<;>simp[betw]<;>omega
  · simp[betw];omega
 unfold hoE
 rw[if_pos e1,if_pos (by simp only[stB,ha,hd,hn,Bool.and_self]),if_pos e3]
end Go.Proofs.YtnfdfiholcelaaaGreatDoor
