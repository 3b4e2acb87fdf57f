import Derived.OrdersHeld
import Derived.Test.YtnfdfiholcelaaaGreatDoorJp10
set_option maxRecDepth 100000
set_option maxHeartbeats 20000000
namespace Go.Proofs.YtnfdfiholcelaaaGreatDoor
open Go.RowKit Plain Tryz
variable {A B D H L M U W k n p q v:Int}{Q R ca cz i j la lz:Nat}{a z:Option Addr}{c x:Value}{u u' w w':World}
def a1I(L H A W p n:Int):Int:=if n=W then A else Ze p L H
def a2I(L H U A W k p n:Int):Int:=Ze (a1I L H A W p n+hunI k U) L H
def ppI(L H U:Int)(al zl:List Int)(A W k p v n:Int):Int:=Y5 (Yz al zl v) (a2I L H U A W k p n) p
def d2I(L H U M:Int)(al zl:List Int)(A D W k p v n q:Int):Int:=if n=W then D else Ze (q-ppI L H U al zl A W k p v n) (-M) M
def wtI(L H U M:Int)(al zl:List Int)(A D W k p v n q:Int):Int:=Ze (ppI L H U al zl A W k p v n+d2I L H U M al zl A D W k p v n q) (-M) M
def wX(L H U M:Int)(al zl:List Int)(A D W k p v n q:Int):Int:=if n≤1 then wtI L H U M al zl A D W k p v n q else if n=2 then hunI k M else 0
def wA(L H U A W k p n:Int):Int:=if n≤1 then a2I L H U A W k p n else A
def wD(L H U M:Int)(al zl:List Int)(A D W k p v n q:Int):Int:=if n≤1 then d2I L H U M al zl A D W k p v n q else D
def toD(B M A D p n want got:Int):Int:=if n=0∧got=want then Ze (D+Y5 B A p) (-M) M else D
theorem hline_lies{al zl:List Int}(h:Ye al zl=0)(ha:Lst u a al)(hz:Lst u z zl):∃ba oa bz oz,a=some (Ad ba oa)∧z=some (Ad bz oz)∧Line u ba oa bz oz al zl:=by
 obtain⟨hl,p,_⟩:=line_of h;have l2:=p.lo;obtain⟨ba,oa,e1,h1⟩:=ha.at (Wq (k:=0) (by omega));obtain⟨bz,oz,e2,h2⟩:=hz.at (Wq (k:=0) (by omega));exact⟨ba,oa,bz,oz,e1,e2,h,h1,h2⟩
theorem htwice{X G:Prop}(h:X→G)(x:X):G:=h x
def HW(w u:World)(L H U B M:Int)(a z:Option Addr)(la lz ca cz:Nat)(A D W k p v n q:Int):Prop:=(Kc u w.heap.size 0 (Vi L)∧Kc u w.heap.size 1 (Vi H)∧Kc u w.heap.size 2 (Vi U)∧Kc u w.heap.size 3 (Vi B)∧Kc u w.heap.size 4 (Vi M)∧Kc u w.heap.size 5 (.slice a la ca)∧Kc u w.heap.size 6 (.slice z lz cz))∧(Kc u (w.heap.size+1) 0 (Vi A)∧Kc u (w.heap.size+1) 1 (Vi D)∧Kc u (w.heap.size+1) 2 (Vi W))∧(Kc u (w.heap.size+1+1) 0 (Vi k)∧Kc u (w.heap.size+1+1) 1 (Vi p)∧Kc u (w.heap.size+1+1) 2 (Vi v)∧Kc u (w.heap.size+1+1) 3 (Vi n)∧Kc u (w.heap.size+1+1) 4 (Vi q))∧(Kc u (w.heap.size+1+1+1) 0 (Vi 0)∧Kc u (w.heap.size+1+1+1) 1 (Vi 0)∧Kc u (w.heap.size+1+1+1) 2 (Vi 0))∧(u.frozen? (Ad (w.heap.size+1) 0)=false∧u.frozen? (Ad (w.heap.size+1) 1)=false∧u.frozen? (Ad (w.heap.size+1) 2)=false)∧(u.frozen? (Ad (w.heap.size+1+1+1) 0)=false∧u.frozen? (Ad (w.heap.size+1+1+1) 1)=false∧u.frozen? (Ad (w.heap.size+1+1+1) 2)=false)∧Bw w u
theorem Yq(hb:Bw w w')(h:Kc w Q j x)(k:w.frozen? (Ad Q j)=false):w'.frozen? (Ad Q j)=false:=
 (hb.frozen (p:=⟨Q,j,none⟩) (World.block_lt_of_cell? w _ h)).trans k
theorem Zk(hb:Bw w w')(h:Kc w Q j x):Kc w' Q j x:=cell_later hb h
section
variable {w u u' : World} {L H U B M : Int} {a z : Option Addr} {la lz ca cz : Nat} {A D W k p v n q : Int}
theorem HW.later(h:HW w u L H U B M a z la lz ca cz A D W k p v n q)(hb:Bw u u'):HW w u' L H U B M a z la lz ca cz A D W k p v n q:=by
 obtain⟨⟨q0,q1,q2,q3,q4,q5,q6⟩,⟨s0,s1,s2⟩,⟨r0,r1,r2,r3,r4⟩,⟨p0,p1,p2⟩,⟨g0,g1,g2⟩,⟨f0,f1,f2⟩,hB⟩:=h;exact⟨⟨Zk hb q0,Zk hb q1,Zk hb q2,Zk hb q3,Zk hb q4,Zk hb q5,Zk hb q6⟩,⟨Zk hb s0,Zk hb s1,Zk hb s2⟩,⟨Zk hb r0,Zk hb r1,Zk hb r2,Zk hb r3,Zk hb r4⟩,⟨Zk hb p0,Zk hb p1,Zk hb p2⟩,⟨Yq hb s0 g0,Yq hb s1 g1,Yq hb s2 g2⟩,⟨Yq hb p0 f0,Yq hb p1 f1,Yq hb p2 f2⟩,Zc hB hb⟩
theorem Zh(hQ:Q≠R)(h:Kc u R i c):(u.setCell (Ad Q j) x).cell? (Ad R i)=some c:=by
 rw[World.cell?_setCell_other _ _ _ _ (fun e=>hQ (congrArg Addr.block e))];exact h
theorem Wt(hQ:j≠i)(h:Kc u Q i c):(u.setCell (Ad Q j) x).cell? (Ad Q i)=some c:=by
 rw[World.cell?_setCell_other _ _ _ _ (fun e=>hQ (congrArg Addr.off e))];exact h
theorem hset_same(h:Kc u Q i c):(u.setCell (Ad Q i) x).cell? (Ad Q i)=some x:=by simp[go_sem,h]
theorem Y9{Q:Addr}(h:u.frozen? (Ad R i)=false):(u.setCell Q x).frozen? (Ad R i)=false:=by simpa[go_sem] using h
theorem HW.setA(h:HW w u L H U B M a z la lz ca cz A D W k p v n q)(x:Int):HW w (u.setCell (Ad (w.heap.size+1) 0) (Vi x)) L H U B M a z la lz ca cz x D W k p v n q:=by
 obtain⟨⟨q0,q1,q2,q3,q4,q5,q6⟩,⟨s0,s1,s2⟩,⟨r0,r1,r2,r3,r4⟩,⟨p0,p1,p2⟩,⟨g0,g1,g2⟩,⟨f0,f1,f2⟩,hB⟩:=h
 have n0:w.heap.size+1≠w.heap.size:=by omega
 have n2:w.heap.size+1≠w.heap.size+1+1:=by omega
 have n3:w.heap.size+1≠w.heap.size+1+1+1:=by omega
 exact⟨⟨Zh n0 q0,Zh n0 q1,Zh n0 q2,Zh n0 q3,Zh n0 q4,Zh n0 q5,Zh n0 q6⟩,⟨hset_same s0,Wt (by decide) s1,Wt (by decide) s2⟩,⟨Zh n2 r0,Zh n2 r1,Zh n2 r2,Zh n2 r3,Zh n2 r4⟩,⟨Zh n3 p0,Zh n3 p1,Zh n3 p2⟩,⟨Y9 g0,Y9 g1,Y9 g2⟩,⟨Y9 f0,Y9 f1,Y9 f2⟩,hB.setCell (by simp) _⟩
theorem HW.setD(h:HW w u L H U B M a z la lz ca cz A D W k p v n q)(x:Int):HW w (u.setCell (Ad (w.heap.size+1) 1) (Vi x)) L H U B M a z la lz ca cz A x W k p v n q:=by
 obtain⟨⟨q0,q1,q2,q3,q4,q5,q6⟩,⟨s0,s1,s2⟩,⟨r0,r1,r2,r3,r4⟩,⟨p0,p1,p2⟩,⟨g0,g1,g2⟩,⟨f0,f1,f2⟩,hB⟩:=h
 have n0:w.heap.size+1≠w.heap.size:=by omega
 have n2:w.heap.size+1≠w.heap.size+1+1:=by omega
 have n3:w.heap.size+1≠w.heap.size+1+1+1:=by omega
 exact⟨⟨Zh n0 q0,Zh n0 q1,Zh n0 q2,Zh n0 q3,Zh n0 q4,Zh n0 q5,Zh n0 q6⟩,⟨Wt (by decide) s0,hset_same s1,Wt (by decide) s2⟩,⟨Zh n2 r0,Zh n2 r1,Zh n2 r2,Zh n2 r3,Zh n2 r4⟩,⟨Zh n3 p0,Zh n3 p1,Zh n3 p2⟩,⟨Y9 g0,Y9 g1,Y9 g2⟩,⟨Y9 f0,Y9 f1,Y9 f2⟩,hB.setCell (by simp) _⟩
theorem HW.setW(h:HW w u L H U B M a z la lz ca cz A D W k p v n q)(x:Int):HW w (u.setCell (Ad (w.heap.size+1) 2) (Vi x)) L H U B M a z la lz ca cz A D x k p v n q:=by
 obtain⟨⟨q0,q1,q2,q3,q4,q5,q6⟩,⟨s0,s1,s2⟩,⟨r0,r1,r2,r3,r4⟩,⟨p0,p1,p2⟩,⟨g0,g1,g2⟩,⟨f0,f1,f2⟩,hB⟩:=h
 have n0:w.heap.size+1≠w.heap.size:=by omega
 have n2:w.heap.size+1≠w.heap.size+1+1:=by omega
 have n3:w.heap.size+1≠w.heap.size+1+1+1:=by omega
 exact⟨⟨Zh n0 q0,Zh n0 q1,Zh n0 q2,Zh n0 q3,Zh n0 q4,Zh n0 q5,Zh n0 q6⟩,⟨Wt (by decide) s0,Wt (by decide) s1,hset_same s2⟩,⟨Zh n2 r0,Zh n2 r1,Zh n2 r2,Zh n2 r3,Zh n2 r4⟩,⟨Zh n3 p0,Zh n3 p1,Zh n3 p2⟩,⟨Y9 g0,Y9 g1,Y9 g2⟩,⟨Y9 f0,Y9 f1,Y9 f2⟩,hB.setCell (by simp) _⟩
theorem HW.new(w:World)(L H U B M:Int)(a z:Option Addr)(la lz ca cz:Nat)(A D W k p v n q:Int):HW w ((((w.alloc (.cells #[Vi L,Vi H,Vi U,Vi B,Vi M,.slice a la ca,.slice z lz cz] 107)).alloc (.cells #[Vi A,Vi D,Vi W] 38)).alloc (.cells #[Vi k,Vi p,Vi v,Vi n,Vi q] 110)).alloc (.cells #[Vi 0,Vi 0,Vi 0] 38)) L H U B M a z la lz ca cz A D W k p v n q:=by
 refine⟨?_,?_,?_,?_,?_,?_,Zc (Zc (Zc (Zb _ _) (Zb _ _)) (Zb _ _)) (Zb _ _)⟩
 · refine⟨?_,?_,?_,?_,?_,?_,?_⟩<;>simp[go_sem]
 · refine⟨?_,?_,?_⟩<;>simp[go_sem]
 · refine⟨?_,?_,?_,?_,?_⟩<;>simp[go_sem]
 · refine⟨?_,?_,?_⟩<;>simp[go_sem]
 · refine⟨?_,?_,?_⟩<;>simp[go_sem]
 · refine⟨?_,?_,?_⟩<;>simp[go_sem]
end
theorem Xa(hb:Bw u u')(h:(Kc u w.heap.size 0 (Vi L)∧Kc u w.heap.size 1 (Vi H)∧Kc u w.heap.size 2 (Vi U)∧Kc u (w.heap.size+1+1) 0 (Vi k))∧Bw w u):(Kc u' w.heap.size 0 (Vi L)∧Kc u' w.heap.size 1 (Vi H)∧Kc u' w.heap.size 2 (Vi U)∧Kc u' (w.heap.size+1+1) 0 (Vi k))∧Bw w u':=
 ⟨⟨Zk hb h.1.1,Zk hb h.1.2.1,Zk hb h.1.2.2.1,Zk hb h.1.2.2.2⟩,Zc h.2 hb⟩
theorem keepSAs(h:(Kc u w.heap.size 0 (Vi L)∧Kc u w.heap.size 1 (Vi H)∧Kc u w.heap.size 2 (Vi U)∧Kc u (w.heap.size+1+1) 0 (Vi k))∧Bw w u):((u.setCell (Ad (w.heap.size+1) j) x).cell? (Ad w.heap.size 0)=some (Vi L)∧(u.setCell (Ad (w.heap.size+1) j) x).cell? (Ad w.heap.size 1)=some (Vi H)∧(u.setCell (Ad (w.heap.size+1) j) x).cell? (Ad w.heap.size 2)=some (Vi U)∧(u.setCell (Ad (w.heap.size+1) j) x).cell? (Ad (w.heap.size+1+1) 0)=some (Vi k))∧Bw w (u.setCell (Ad (w.heap.size+1) j) x):=
 ⟨⟨Zh (by omega) h.1.1,Zh (by omega) h.1.2.1,Zh (by omega) h.1.2.2.1,Zh (by omega) h.1.2.2.2⟩,h.2.setCell (by simp) _⟩
theorem keepSE(hb:Bw u u')(h:(Kc u w.heap.size 0 (Vi L)∧Kc u w.heap.size 1 (Vi H)∧Kc u w.heap.size 2 (Vi U)∧Kc u w.heap.size 3 (Vi B)∧Kc u w.heap.size 4 (Vi M)∧Kc u w.heap.size 5 (.slice a la ca)∧Kc u w.heap.size 6 (.slice z lz cz))∧(Kc u (w.heap.size+1) 0 (Vi A)∧Kc u (w.heap.size+1) 1 (Vi D)∧Kc u (w.heap.size+1) 2 (Vi W))∧Bw w u):(Kc u' w.heap.size 0 (Vi L)∧Kc u' w.heap.size 1 (Vi H)∧Kc u' w.heap.size 2 (Vi U)∧Kc u' w.heap.size 3 (Vi B)∧Kc u' w.heap.size 4 (Vi M)∧Kc u' w.heap.size 5 (.slice a la ca)∧Kc u' w.heap.size 6 (.slice z lz cz))∧(Kc u' (w.heap.size+1) 0 (Vi A)∧Kc u' (w.heap.size+1) 1 (Vi D)∧Kc u' (w.heap.size+1) 2 (Vi W))∧Bw w u':=
 ⟨⟨Zk hb h.1.1,Zk hb h.1.2.1,Zk hb h.1.2.2.1,Zk hb h.1.2.2.2.1,Zk hb h.1.2.2.2.2.1,Zk hb h.1.2.2.2.2.2.1,Zk hb h.1.2.2.2.2.2.2⟩,⟨Zk hb h.2.1.1,Zk hb h.2.1.2.1,Zk hb h.2.1.2.2⟩,Zc h.2.2 hb⟩
theorem keepSEs(h:(Kc u w.heap.size 0 (Vi L)∧Kc u w.heap.size 1 (Vi H)∧Kc u w.heap.size 2 (Vi U)∧Kc u w.heap.size 3 (Vi B)∧Kc u w.heap.size 4 (Vi M)∧Kc u w.heap.size 5 (.slice a la ca)∧Kc u w.heap.size 6 (.slice z lz cz))∧(Kc u (w.heap.size+1) 0 (Vi A)∧Kc u (w.heap.size+1) 1 (Vi D)∧Kc u (w.heap.size+1) 2 (Vi W))∧Bw w u):((u.setCell (Ad (w.heap.size+1+1+1) j) x).cell? (Ad w.heap.size 0)=some (Vi L)∧(u.setCell (Ad (w.heap.size+1+1+1) j) x).cell? (Ad w.heap.size 1)=some (Vi H)∧(u.setCell (Ad (w.heap.size+1+1+1) j) x).cell? (Ad w.heap.size 2)=some (Vi U)∧(u.setCell (Ad (w.heap.size+1+1+1) j) x).cell? (Ad w.heap.size 3)=some (Vi B)∧(u.setCell (Ad (w.heap.size+1+1+1) j) x).cell? (Ad w.heap.size 4)=some (Vi M)∧(u.setCell (Ad (w.heap.size+1+1+1) j) x).cell? (Ad w.heap.size 5)=some (.slice a la ca)∧(u.setCell (Ad (w.heap.size+1+1+1) j) x).cell? (Ad w.heap.size 6)=some (.slice z lz cz))∧((u.setCell (Ad (w.heap.size+1+1+1) j) x).cell? (Ad (w.heap.size+1) 0)=some (Vi A)∧(u.setCell (Ad (w.heap.size+1+1+1) j) x).cell? (Ad (w.heap.size+1) 1)=some (Vi D)∧(u.setCell (Ad (w.heap.size+1+1+1) j) x).cell? (Ad (w.heap.size+1) 2)=some (Vi W))∧Bw w (u.setCell (Ad (w.heap.size+1+1+1) j) x):=by
 have n0:w.heap.size+1+1+1≠w.heap.size:=by omega
 have n1:w.heap.size+1+1+1≠w.heap.size+1:=by omega
 exact⟨⟨Zh n0 h.1.1,Zh n0 h.1.2.1,Zh n0 h.1.2.2.1,Zh n0 h.1.2.2.2.1,Zh n0 h.1.2.2.2.2.1,Zh n0 h.1.2.2.2.2.2.1,Zh n0 h.1.2.2.2.2.2.2⟩,⟨Zh n1 h.2.1.1,Zh n1 h.2.1.2.1,Zh n1 h.2.1.2.2⟩,h.2.2.setCell (by simp;omega) _⟩
theorem room_zero{c0 c1 c2:Value}(hb:Below u.drew.heap.size u.drew u')(p0:Kc u Q 0 c0)(p1:Kc u Q 1 c1)(p2:Kc u Q 2 c2)(f0:u.frozen? (Ad Q 0)=false)(f1:u.frozen? (Ad Q 1)=false)(f2:u.frozen? (Ad Q 2)=false):
 Kc u' Q 0 c0∧Kc u' Q 1 c1∧Kc u' Q 2 c2∧u'.frozen? (Ad Q 0)=false∧u'.frozen? (Ad Q 1)=false∧u'.frozen? (Ad Q 2)=false:=
 ⟨Zk hb p0,Zk hb p1,Zk hb p2,Yq hb p0 f0,Yq hb p1 f1,Yq hb p2 f2⟩
theorem steer_ok(L H U B M:Int)(a z:Option Addr)(ca cz:Nat)(al zl:List Int)(A D W k p v n q:Int)(hca:al.length≤ca)(h0:hoE L H U B M al zl A D W k n q=0)(w:World)(ha:Lst w a al)(hz:Lst w z zl):
 Calls prog 217 #[.agg (Qar L H U B M a z al zl ca cz),.agg #[Vi A,Vi D,Vi W],.agg #[Vi k,Vi p,Vi v,Vi n,Vi q]] w (Rt w (.tuple #[Vi (wtI L H U M al zl A D W k p v n q),.agg #[Vi (a2I L H U A W k p n),Vi (d2I L H U M al zl A D W k p v n q),Vi n],.nilIface])):=by
 obtain⟨e1,e2,e3⟩:=Wh h0;obtain⟨e4,e5,e6,_⟩:=X8 e1;obtain⟨⟨l0,l1⟩,⟨u0,u1⟩,⟨t0,t1⟩,⟨b0,b1⟩,m0,m1⟩:=X7 e4;obtain⟨⟨a0,a1⟩,⟨d0,d1⟩,_,_⟩:=Up e2;obtain⟨⟨k0,k1⟩,_,q0',q1'⟩:=asB_true e3;obtain⟨ba,oa,bz,oz,rfl,rfl,hl⟩:=hline_lies e6 ha hz;have HX:=Za (HW.new w L H U B M (some (Ad ba oa)) (some (Ad bz oz)) al.length zl.length ca cz A D W k p v n q);have hlk:=fun u (h:Bw w u)=>look_ok ba oa ca bz oz cz al zl v u hca (hl.later h);have hhu:=holdHun_any k U k0 k1 t0 (by omega);have hub:=hunI_bd k0 k1 t0 (show U≤4000 by omega);clear h0 e1 e2 e3 e4 e6 ha hz hl
 unfold wtI d2I ppI a2I a1I
 generalize Yz al zl v=g at *;generalize hunI k U=hu at *;obtain⟨hu0,hu1⟩:=hub
 by_cases hW:n=W
 case' pos=>
  obtain⟨x1,rfl⟩:∃x1,x1=A:=⟨_,rfl⟩;obtain⟨y,rfl⟩:∃y,y=D:=⟨_,rfl⟩;rw[if_pos hW,if_pos hW]
  have hne:(W != n)=false:=by simp[hW]
  clear hW;have hc2:=Yu (x1+hu) L H;have x2b:=Xk (x1+hu) e5;generalize Ze (x1+hu) L H=x2 at *;have hpl:=holdPull_any x2 p g (by omega) (by omega);have ppb:=Un g x2 p;generalize Y5 g x2 p=pp at *;obtain⟨pp0,pp1⟩:=ppb;have hm2:=Me L H U B M (some (Ad ba oa)) (some (Ad bz oz)) al.length zl.length ca cz (pp+y) m0 m1;generalize Ze (pp+y) (-M) M=wt at *;have v1:=Wr (x1+hu);have v2:=Wr (pp+y)
  go_enter func217,ntmps217
  go_upto_region 8 with(go_at_call 240;refine Sb (hlk _ HX.out.2.2.2.2.2.2) fun w1 hb=>?_;have HX:=Za (HX.out.later hb);obtain⟨⟨q0,q1,q2,q3,q4,q5,q6⟩,⟨s0,s1,s2⟩,⟨r0,r1,r2,r3,r4⟩,⟨p0,p1,p2⟩,⟨g0,g1,g2⟩,⟨f0,f1,f2⟩,hB⟩:=HX.out;clear hB hb);have Hb:=Za (HX.out.setW n);clear HX
 case' neg=>
  rw[if_neg hW,if_neg hW]
  have hne:(W != n)=true:=by simpa using fun h=>hW h.symm
  clear hW;have hc1:=Yu p L H;have x1b:=Xk p e5;generalize Ze p L H=x1 at *;have hc2:=Yu (x1+hu) L H;have x2b:=Xk (x1+hu) e5;generalize Ze (x1+hu) L H=x2 at *;have hpl:=holdPull_any x2 p g (by omega) (by omega);have ppb:=Un g x2 p;generalize Y5 g x2 p=pp at *;obtain⟨pp0,pp1⟩:=ppb;have hm1:=Me L H U B M (some (Ad ba oa)) (some (Ad bz oz)) al.length zl.length ca cz (q-pp) m0 m1;have yb:=Xk (q-pp) (lo:=-M) (hi:=M) (by omega);generalize Ze (q-pp) (-M) M=y at *;have hm2:=Me L H U B M (some (Ad ba oa)) (some (Ad bz oz)) al.length zl.length ca cz (pp+y) m0 m1;generalize Ze (pp+y) (-M) M=wt at *;have v1:=Wr (x1+hu);have v2:=Wr (pp+y)
  go_enter func217,ntmps217
  go_upto_region 8 with(first
   |(go_at_call 240;refine Sb (hlk _ HX.out.2.2.2.2.2.2) fun w1 hb=>?_;have HX:=Za (HX.out.later hb);obtain⟨⟨q0,q1,q2,q3,q4,q5,q6⟩,⟨s0,s1,s2⟩,⟨r0,r1,r2,r3,r4⟩,⟨p0,p1,p2⟩,⟨g0,g1,g2⟩,⟨f0,f1,f2⟩,hB⟩:=HX.out;clear hB hb)
   |(go_at_call 172;refine Sm (hc1 _) ?_))
  have Hb:=Za ((HX.out.setW n).setA x1);clear HX
 all_goals
  generalize hw2:World.setCell _ _ (Vi _)=w2 at *;clear hw2;clear q0 q1 q2 q3 q4 q5 q6 s0 s1 s2 r0 r1 r2 r3 r4 p0 p1 p2 g0 g1 g2 f0 f1 f2;obtain⟨⟨q0,q1,q2,q3,q4,q5,q6⟩,⟨s0,s1,s2⟩,⟨r0,r1,r2,r3,r4⟩,⟨p0,p1,p2⟩,⟨g0,g1,g2⟩,⟨f0,f1,f2⟩,hB⟩:=Hb.out;have Z:=Za (show(Kc w2 w.heap.size 0 (Vi L)∧Kc w2 w.heap.size 1 (Vi H)∧Kc w2 w.heap.size 2 (Vi U)∧Kc w2 (w.heap.size+1+1) 0 (Vi k))∧Bw w w2 from⟨⟨q0,q1,q2,r0⟩,hB⟩);clear hB;apply htwice
  · intro hk;refine wp_region_held_drew (S:=fun u=>(Kc u w.heap.size 0 (Vi L)∧Kc u w.heap.size 1 (Vi H)∧Kc u w.heap.size 2 (Vi U)∧Kc u (w.heap.size+1+1) 0 (Vi k))∧Bw w u) (by kernel_rfl) (Xa (Below.refl _ _).drew Z.out) (fun hHeld=>?_);refine Tp 0 (by assumption) ?_;(try simp only[Act.put]);refine Tp 2 (by assumption) ?_;(try simp only[Act.put]);refine Tp 3 (by assumption) ?_;(try simp only[Act.put]);refine Tp 4 (by assumption) ?_;(try simp only[Act.put]);refine Tp 5 (by assumption) ?_;(try simp only[Act.put]);refine Tp 8 (by assumption) ?_;(try simp only[Act.put]);refine Tp 9 (by assumption) ?_;(try simp only[Act.put]);refine Tp 10 (by assumption) ?_;(try simp only[Act.put]);refine Tp 11 (by assumption) ?_;(try simp only[Act.put]);refine Tp 12 (by assumption) ?_;(try simp only[Act.put]);refine Tp 13 (by assumption) ?_;(try simp only[Act.put]);refine Rb 1 6 (fun K hK=>?_) (fun K hK=>?_)
    · go_simp;refine hK.out _ _ (Xa (Below.refl _ _).drew Z.out) (fun hHeld=>?_);clear hK K;refine Ra 6 (fun K hK=>?_);go_simp;refine Sm (hhu _) ?_;go_wp2_with fail;refine hK.out _ _ (Xa (Below.refl _ _).drew Z.out) (fun hHeld=>?_);clear hK K;refine Tp 7 (by assumption) ?_;(try simp only[Act.put]);refine Ra 14 (fun K hK=>?_);go_simp;refine Sm (hc2 _) ?_;go_wp2_with fail;refine hK.out _ _ (Xa (Below.refl _ _).drew Z.out) (fun hHeld=>?_);clear hK K;refine Tp 15 (by assumption) ?_;(try simp only[Act.put]);refine Ra 16 (fun K hK=>?_);go_simp;refine hK.out _ _ (keepSAs (Xa (Below.refl _ _).drew Z.out)) (fun hHeld=>?_);clear hK K;refine Dn ?_;exact hk
    · go_simp;refine Sm (hhu _) ?_;go_wp2_with fail;refine hK.out _ _ (Xa (Below.refl _ _).drew Z.out) (fun hHeld=>?_);clear hK K;refine Ra 1 (fun K hK=>?_);go_simp;refine hK.out _ _ (Xa (Below.refl _ _).drew Z.out) (fun hHeld=>?_);clear hK K;refine Tp 7 (by assumption) ?_;(try simp only[Act.put]);refine Ra 14 (fun K hK=>?_);go_simp;refine Sm (hc2 _) ?_;go_wp2_with fail;refine hK.out _ _ (Xa (Below.refl _ _).drew Z.out) (fun hHeld=>?_);clear hK K;refine Tp 15 (by assumption) ?_;(try simp only[Act.put]);refine Ra 16 (fun K hK=>?_);go_simp;refine hK.out _ _ (keepSAs (Xa (Below.refl _ _).drew Z.out)) (fun hHeld=>?_);clear hK K;refine Dn ?_;exact hk
  have Ha:=Za ((Hb.out.setA x2).later (Below.refl _ _).drew);clear Hb Z;generalize hw3:World.drew (World.setCell _ _ (Vi x2))=w3 at *;clear hw3;clear q0 q1 q2 q3 q4 q5 q6 s0 s1 s2 r0 r1 r2 r3 r4 p0 p1 p2 g0 g1 g2 f0 f1 f2;obtain⟨⟨q0,q1,q2,q3,q4,q5,q6⟩,⟨s0,s1,s2⟩,⟨r0,r1,r2,r3,r4⟩,⟨p0,p1,p2⟩,⟨g0,g1,g2⟩,⟨f0,f1,f2⟩,hB⟩:=Ha.out;clear hB
  first
   |(have hz:(W != n)=false:=hne;clear hz;go_upto_region 12 with(first|(go_at_call 225;refine Sb (hpl _) fun w6 hb=>?_;have Ha:=Za (Ha.out.later hb);obtain⟨⟨q0,q1,q2,q3,q4,q5,q6⟩,⟨s0,s1,s2⟩,⟨r0,r1,r2,r3,r4⟩,⟨p0,p1,p2⟩,⟨g0,g1,g2⟩,⟨f0,f1,f2⟩,hB⟩:=Ha.out;clear hB hb));have Hc:=Ha;clear Ha;obtain⟨⟨q0,q1,q2,q3,q4,q5,q6⟩,⟨s0,s1,s2⟩,⟨r0,r1,r2,r3,r4⟩,⟨p0,p1,p2⟩,⟨g0,g1,g2⟩,⟨f0,f1,f2⟩,hB⟩:=Hc.out)
   |(go_upto_region 12 with(first|(go_at_call 225;refine Sb (hpl _) fun w4 hb=>?_;have Ha:=Za (Ha.out.later hb);obtain⟨⟨q0,q1,q2,q3,q4,q5,q6⟩,⟨s0,s1,s2⟩,⟨r0,r1,r2,r3,r4⟩,⟨p0,p1,p2⟩,⟨g0,g1,g2⟩,⟨f0,f1,f2⟩,hB⟩:=Ha.out;clear hB hb)|(go_at_call 224;refine Sb (hm1 _) fun w5 hb=>?_;have Ha:=Za (Ha.out.later hb);obtain⟨⟨q0,q1,q2,q3,q4,q5,q6⟩,⟨s0,s1,s2⟩,⟨r0,r1,r2,r3,r4⟩,⟨p0,p1,p2⟩,⟨g0,g1,g2⟩,⟨f0,f1,f2⟩,hB⟩:=Ha.out;clear hB hb));have Hc:=Za (Ha.out.setD y);clear Ha;generalize hw5:World.setCell _ _ (Vi y)=w6 at *;clear hw5;clear q0 q1 q2 q3 q4 q5 q6 s0 s1 s2 r0 r1 r2 r3 r4 p0 p1 p2 g0 g1 g2 f0 f1 f2;obtain⟨⟨q0,q1,q2,q3,q4,q5,q6⟩,⟨s0,s1,s2⟩,⟨r0,r1,r2,r3,r4⟩,⟨p0,p1,p2⟩,⟨g0,g1,g2⟩,⟨f0,f1,f2⟩,hB⟩:=Hc.out)
  have Z:=Za (show(Kc w6 w.heap.size 0 (Vi L)∧Kc w6 w.heap.size 1 (Vi H)∧Kc w6 w.heap.size 2 (Vi U)∧Kc w6 w.heap.size 3 (Vi B)∧Kc w6 w.heap.size 4 (Vi M)∧Kc w6 w.heap.size 5 (.slice (some (Ad ba oa)) al.length ca)∧Kc w6 w.heap.size 6 (.slice (some (Ad bz oz)) zl.length cz))∧(Kc w6 (w.heap.size+1) 0 (Vi x2)∧Kc w6 (w.heap.size+1) 1 (Vi y)∧Kc w6 (w.heap.size+1) 2 (Vi n))∧Bw w w6 from⟨⟨q0,q1,q2,q3,q4,q5,q6⟩,⟨s0,s1,s2⟩,hB⟩);clear hB q0 q1 q2 q3 q4 q5 q6 s0 s1 s2 r0 r1 r2 r3 r4 g0 g1 g2
  go_region_held3 (fun u=>(Kc u w.heap.size 0 (Vi L)∧Kc u w.heap.size 1 (Vi H)∧Kc u w.heap.size 2 (Vi U)∧Kc u w.heap.size 3 (Vi B)∧Kc u w.heap.size 4 (Vi M)∧Kc u w.heap.size 5 (.slice (some (Ad ba oa)) al.length ca)∧Kc u w.heap.size 6 (.slice (some (Ad bz oz)) zl.length cz))∧(Kc u (w.heap.size+1) 0 (Vi x2)∧Kc u (w.heap.size+1) 1 (Vi y)∧Kc u (w.heap.size+1) 2 (Vi n))∧Bw w u)
   (first
    |(with_reducible assumption)
    |(with_reducible apply keepSE;with_reducible assumption;with_reducible assumption)
    |((repeat (with_reducible first|exact Z.out|assumption|refine keepSE (Below.refl _ _).drew ?_|refine keepSEs ?_));done))
   (first
    |(go_at_call 224;refine Sb (hm2 _) fun w' hb=>?_;first|(obtain⟨y0,y1,y2,k0,k1,k2⟩:=room_zero hb p0 p1 p2 f0 f1 f2)|(obtain⟨y0,y1,y2⟩:=room_full hb p0 p1 p2)))
  all_goals
   rename_i hH
   have HB:=Za hH.2.2;clear hH;go_wp2_with fail;refine bodyPost_ret (v:=.tuple #[Vi wt,.agg #[Vi x2,Vi y,Vi n],.nilIface]) ?_ rfl ⟨rfl,HB.out⟩
   simp[results,results217,go_sem,y0,y1,y2]
theorem keepS2(hb:Bw u u')(h:(Kc u w.heap.size 4 (Vi M)∧Kc u (w.heap.size+1+1) 0 (Vi k))∧(Kc u (w.heap.size+1) 0 (Vi A)∧Kc u (w.heap.size+1) 1 (Vi D)∧Kc u (w.heap.size+1) 2 (Vi W))∧Bw w u):(Kc u' w.heap.size 4 (Vi M)∧Kc u' (w.heap.size+1+1) 0 (Vi k))∧(Kc u' (w.heap.size+1) 0 (Vi A)∧Kc u' (w.heap.size+1) 1 (Vi D)∧Kc u' (w.heap.size+1) 2 (Vi W))∧Bw w u':=
 ⟨⟨Zk hb h.1.1,Zk hb h.1.2⟩,⟨Zk hb h.2.1.1,Zk hb h.2.1.2.1,Zk hb h.2.1.2.2⟩,Zc h.2.2 hb⟩
theorem keepS2s(h:(Kc u w.heap.size 4 (Vi M)∧Kc u (w.heap.size+1+1) 0 (Vi k))∧(Kc u (w.heap.size+1) 0 (Vi A)∧Kc u (w.heap.size+1) 1 (Vi D)∧Kc u (w.heap.size+1) 2 (Vi W))∧Bw w u):((u.setCell (Ad (w.heap.size+1+1+1) j) x).cell? (Ad w.heap.size 4)=some (Vi M)∧(u.setCell (Ad (w.heap.size+1+1+1) j) x).cell? (Ad (w.heap.size+1+1) 0)=some (Vi k))∧((u.setCell (Ad (w.heap.size+1+1+1) j) x).cell? (Ad (w.heap.size+1) 0)=some (Vi A)∧(u.setCell (Ad (w.heap.size+1+1+1) j) x).cell? (Ad (w.heap.size+1) 1)=some (Vi D)∧(u.setCell (Ad (w.heap.size+1+1+1) j) x).cell? (Ad (w.heap.size+1) 2)=some (Vi W))∧Bw w (u.setCell (Ad (w.heap.size+1+1+1) j) x):=by
 have n0:w.heap.size+1+1+1≠w.heap.size:=by omega
 have n1:w.heap.size+1+1+1≠w.heap.size+1:=by omega
 have n2:w.heap.size+1+1+1≠w.heap.size+1+1:=by omega
 exact⟨⟨Zh n0 h.1.1,Zh n2 h.1.2⟩,⟨Zh n1 h.2.1.1,Zh n1 h.2.1.2.1,Zh n1 h.2.1.2.2⟩,h.2.2.setCell (by simp;omega) _⟩
theorem keepSP{ba oa bz oz:Nat}(hb:Bw u u')(h:(Kc u w.heap.size 5 (.slice (some (Ad ba oa)) la ca)∧Kc u w.heap.size 6 (.slice (some (Ad bz oz)) lz cz)∧Kc u (w.heap.size+1) 0 (Vi A))∧(Kc u (w.heap.size+1+1) 0 (Vi k)∧Kc u (w.heap.size+1+1) 1 (Vi p)∧Kc u (w.heap.size+1+1) 2 (Vi v)∧Kc u (w.heap.size+1+1) 3 (Vi n)∧Kc u (w.heap.size+1+1) 4 (Vi q))∧Bw w u):(Kc u' w.heap.size 5 (.slice (some (Ad ba oa)) la ca)∧Kc u' w.heap.size 6 (.slice (some (Ad bz oz)) lz cz)∧Kc u' (w.heap.size+1) 0 (Vi A))∧(Kc u' (w.heap.size+1+1) 0 (Vi k)∧Kc u' (w.heap.size+1+1) 1 (Vi p)∧Kc u' (w.heap.size+1+1) 2 (Vi v)∧Kc u' (w.heap.size+1+1) 3 (Vi n)∧Kc u' (w.heap.size+1+1) 4 (Vi q))∧Bw w u':=
 ⟨⟨Zk hb h.1.1,Zk hb h.1.2.1,Zk hb h.1.2.2⟩,⟨Zk hb h.2.1.1,Zk hb h.2.1.2.1,Zk hb h.2.1.2.2.1,Zk hb h.2.1.2.2.2.1,Zk hb h.2.1.2.2.2.2⟩,Zc h.2.2 hb⟩
theorem wanted_hold(L H U B M:Int)(a z:Option Addr)(ca cz:Nat)(al zl:List Int)(A D W k p v n q:Int)(h0:hoE L H U B M al zl A D W k n q=0)(n1:n≤1)(w:World)(ha:Lst w a al)(hz:Lst w z zl):
 Calls prog 96 #[.agg (Qar L H U B M a z al zl ca cz),.agg #[Vi A,Vi D,Vi W],.agg #[Vi k,Vi p,Vi v,Vi n,Vi q]] w (Rt w (.tuple #[Vi (wtI L H U M al zl A D W k p v n q),.agg #[Vi (a2I L H U A W k p n),Vi (d2I L H U M al zl A D W k p v n q),Vi n]])):=by
 obtain⟨e1,e2,e3⟩:=Wh h0;obtain⟨e4,e5,e6,_⟩:=X8 e1;obtain⟨⟨l0,l1⟩,⟨u0,u1⟩,⟨t0,t1⟩,⟨b0,b1⟩,m0,m1⟩:=X7 e4;obtain⟨⟨a0,a1⟩,⟨d0,d1⟩,_,_⟩:=Up e2;obtain⟨⟨k0,k1⟩,⟨n0,_⟩,q0',q1'⟩:=asB_true e3;obtain⟨ba,oa,bz,oz,rfl,rfl,hl⟩:=hline_lies e6 ha hz;have hhu:=refHun_any k U k0 k1 t0 (by omega);have hub:=hunI_bd k0 k1 t0 (show U≤4000 by omega)
 have n2:(n==2)=false:=by simp;omega
 have n3:(n==3)=false:=by simp;omega
 unfold wtI d2I ppI a2I a1I
 have hlk0:=fun u (h:Bw w u)=>refLook_ok ba oa ca bz oz cz al zl v u (hl.later h);clear h0 e1 e2 e3 e4 e6 ha hz hl n1;generalize Yz al zl v=g at *;generalize hunI k U=hu at *;obtain⟨hu0,hu1⟩:=hub
 by_cases hW:n=W
 case' pos=>
  obtain⟨x1,rfl⟩:∃x1,x1=A:=⟨_,rfl⟩;obtain⟨y,rfl⟩:∃y,y=D:=⟨_,rfl⟩;rw[if_pos hW,if_pos hW]
  have hne:(n != W)=false:=by simp[hW]
  clear hW;have hc2:=Yr (x1+hu) L H e5;have x2b:=Xk (x1+hu) e5;generalize Ze (x1+hu) L H=x2 at *;have hpl:=refPull_any g x2 k p v n q (by omega) (by omega);have ppb:=Un g x2 p;generalize Y5 g x2 p=pp at *;obtain⟨pp0,pp1⟩:=ppb;have hm2:=Yr (pp+y) (-M) M (by omega);generalize Ze (pp+y) (-M) M=wt at *;have v1:=Wr (x1+hu);have v2:=Wr (pp+y);have v3:=Wr (-M);have hlk:∀u,(Kc u w.heap.size 5 (.slice (some (Ad ba oa)) al.length ca)∧Kc u w.heap.size 6 (.slice (some (Ad bz oz)) zl.length cz)∧Kc u (w.heap.size+1) 0 (Vi x2))∧(Kc u (w.heap.size+1+1) 0 (Vi k)∧Kc u (w.heap.size+1+1) 1 (Vi p)∧Kc u (w.heap.size+1+1) 2 (Vi v)∧Kc u (w.heap.size+1+1) 3 (Vi n)∧Kc u (w.heap.size+1+1) 4 (Vi q))∧Bw w u→_:=fun u h=>hlk0 u h.2.2;clear hlk0
  go_enter func96,ntmps96
  go_upto_region 9 with fail;have Hb:=Za (HW.new w L H U B M (some (Ad ba oa)) (some (Ad bz oz)) al.length zl.length ca cz x1 y n k p v n q)
 case' neg=>
  rw[if_neg hW,if_neg hW]
  have hne:(n != W)=true:=by simpa using hW
  clear hW;have hc1:=Yr p L H e5;have x1b:=Xk p e5;generalize Ze p L H=x1 at *;have hc2:=Yr (x1+hu) L H e5;have x2b:=Xk (x1+hu) e5;generalize Ze (x1+hu) L H=x2 at *;have hpl:=refPull_any g x2 k p v n q (by omega) (by omega);have ppb:=Un g x2 p;generalize Y5 g x2 p=pp at *;obtain⟨pp0,pp1⟩:=ppb;have hm1:=Yr (q-pp) (-M) M (by omega);have yb:=Xk (q-pp) (lo:=-M) (hi:=M) (by omega);generalize Ze (q-pp) (-M) M=y at *;have hm2:=Yr (pp+y) (-M) M (by omega);generalize Ze (pp+y) (-M) M=wt at *;have v1:=Wr (x1+hu);have v2:=Wr (pp+y);have v3:=Wr (-M);have hlk:∀u,(Kc u w.heap.size 5 (.slice (some (Ad ba oa)) al.length ca)∧Kc u w.heap.size 6 (.slice (some (Ad bz oz)) zl.length cz)∧Kc u (w.heap.size+1) 0 (Vi x2))∧(Kc u (w.heap.size+1+1) 0 (Vi k)∧Kc u (w.heap.size+1+1) 1 (Vi p)∧Kc u (w.heap.size+1+1) 2 (Vi v)∧Kc u (w.heap.size+1+1) 3 (Vi n)∧Kc u (w.heap.size+1+1) 4 (Vi q))∧Bw w u→_:=fun u h=>hlk0 u h.2.2;clear hlk0
  go_enter func96,ntmps96
  go_upto_region 9 with(go_at_call 94;refine Sm (hc1 _) ?_);have Hb:=Za (HW.new w L H U B M (some (Ad ba oa)) (some (Ad bz oz)) al.length zl.length ca cz x1 D n k p v n q)
 all_goals
  generalize hw2:World.alloc (World.alloc (World.alloc (World.alloc _ _) _) _) _=w2 at *;clear hw2;obtain⟨⟨q0,q1,q2,q3,q4,q5,q6⟩,⟨s0,s1,s2⟩,⟨r0,r1,r2,r3,r4⟩,⟨p0,p1,p2⟩,⟨g0,g1,g2⟩,⟨f0,f1,f2⟩,hB⟩:=Hb.out;have Z:=Za (show(Kc w2 w.heap.size 0 (Vi L)∧Kc w2 w.heap.size 1 (Vi H)∧Kc w2 w.heap.size 2 (Vi U)∧Kc w2 (w.heap.size+1+1) 0 (Vi k))∧Bw w w2 from⟨⟨q0,q1,q2,r0⟩,hB⟩);clear hB;apply htwice
  · intro hk;refine wp_region_held_drew (S:=fun u=>(Kc u w.heap.size 0 (Vi L)∧Kc u w.heap.size 1 (Vi H)∧Kc u w.heap.size 2 (Vi U)∧Kc u (w.heap.size+1+1) 0 (Vi k))∧Bw w u) (by kernel_rfl) (Xa (Below.refl _ _).drew Z.out) (fun hHeld=>?_);refine Tp 0 (by assumption) ?_;(try simp only[Act.put]);refine Tp 2 (by assumption) ?_;(try simp only[Act.put]);refine Tp 3 (by assumption) ?_;(try simp only[Act.put]);refine Tp 4 (by assumption) ?_;(try simp only[Act.put]);refine Tp 5 (by assumption) ?_;(try simp only[Act.put]);refine Tp 8 (by assumption) ?_;(try simp only[Act.put]);refine Tp 9 (by assumption) ?_;(try simp only[Act.put]);refine Tp 10 (by assumption) ?_;(try simp only[Act.put]);refine Tp 11 (by assumption) ?_;(try simp only[Act.put]);refine Tp 12 (by assumption) ?_;(try simp only[Act.put]);refine Tp 13 (by assumption) ?_;(try simp only[Act.put]);refine Rb 1 6 (fun K hK=>?_) (fun K hK=>?_)
    · go_simp;refine hK.out _ _ (Xa (Below.refl _ _).drew Z.out) (fun hHeld=>?_);clear hK K;refine Ra 6 (fun K hK=>?_);go_simp;refine Sm (hhu _) ?_;go_wp2_with fail;refine hK.out _ _ (Xa (Below.refl _ _).drew Z.out) (fun hHeld=>?_);clear hK K;refine Tp 7 (by assumption) ?_;(try simp only[Act.put]);refine Ra 14 (fun K hK=>?_);go_simp;refine Sm (hc2 _) ?_;go_wp2_with fail;refine hK.out _ _ (Xa (Below.refl _ _).drew Z.out) (fun hHeld=>?_);clear hK K;refine Tp 15 (by assumption) ?_;(try simp only[Act.put]);refine Ra 16 (fun K hK=>?_);go_simp;refine hK.out _ _ (keepSAs (Xa (Below.refl _ _).drew Z.out)) (fun hHeld=>?_);clear hK K;refine Dn ?_;exact hk
    · go_simp;refine Sm (hhu _) ?_;go_wp2_with fail;refine hK.out _ _ (Xa (Below.refl _ _).drew Z.out) (fun hHeld=>?_);clear hK K;refine Ra 1 (fun K hK=>?_);go_simp;refine hK.out _ _ (Xa (Below.refl _ _).drew Z.out) (fun hHeld=>?_);clear hK K;refine Tp 7 (by assumption) ?_;(try simp only[Act.put]);refine Ra 14 (fun K hK=>?_);go_simp;refine Sm (hc2 _) ?_;go_wp2_with fail;refine hK.out _ _ (Xa (Below.refl _ _).drew Z.out) (fun hHeld=>?_);clear hK K;refine Tp 15 (by assumption) ?_;(try simp only[Act.put]);refine Ra 16 (fun K hK=>?_);go_simp;refine hK.out _ _ (keepSAs (Xa (Below.refl _ _).drew Z.out)) (fun hHeld=>?_);clear hK K;refine Dn ?_;exact hk
  have Ha:=Za ((Hb.out.setA x2).later (Below.refl _ _).drew);clear Hb Z;generalize hw3:World.drew (World.setCell _ _ (Vi x2))=w3 at *;clear hw3;clear q0 q1 q2 q3 q4 q5 q6 s0 s1 s2 r0 r1 r2 r3 r4 p0 p1 p2 g0 g1 g2 f0 f1 f2;obtain⟨⟨q0,q1,q2,q3,q4,q5,q6⟩,⟨s0,s1,s2⟩,⟨r0,r1,r2,r3,r4⟩,⟨p0,p1,p2⟩,⟨g0,g1,g2⟩,⟨f0,f1,f2⟩,hB⟩:=Ha.out
  go_upto_region 10 with fail;have Z:=Za (show(Kc w3 w.heap.size 5 (.slice (some (Ad ba oa)) al.length ca)∧Kc w3 w.heap.size 6 (.slice (some (Ad bz oz)) zl.length cz)∧Kc w3 (w.heap.size+1) 0 (Vi x2))∧(Kc w3 (w.heap.size+1+1) 0 (Vi k)∧Kc w3 (w.heap.size+1+1) 1 (Vi p)∧Kc w3 (w.heap.size+1+1) 2 (Vi v)∧Kc w3 (w.heap.size+1+1) 3 (Vi n)∧Kc w3 (w.heap.size+1+1) 4 (Vi q))∧Bw w w3 from⟨⟨q5,q6,s0⟩,⟨r0,r1,r2,r3,r4⟩,hB⟩);clear hB
  go_region_held3 (fun u=>(Kc u w.heap.size 5 (.slice (some (Ad ba oa)) al.length ca)∧Kc u w.heap.size 6 (.slice (some (Ad bz oz)) zl.length cz)∧Kc u (w.heap.size+1) 0 (Vi x2))∧(Kc u (w.heap.size+1+1) 0 (Vi k)∧Kc u (w.heap.size+1+1) 1 (Vi p)∧Kc u (w.heap.size+1+1) 2 (Vi v)∧Kc u (w.heap.size+1+1) 3 (Vi n)∧Kc u (w.heap.size+1+1) 4 (Vi q))∧Bw w u)
   (first
    |(with_reducible assumption)
    |(with_reducible apply keepSP;with_reducible assumption;with_reducible assumption)
    |(with_reducible refine keepSP (Below.refl _ _).drew ?_;exact Z.out))
   (first
    |(go_at_call 144;refine(hlk _ ?_).mono ?_;(with_reducible assumption);rintro e w4 ⟨rfl,hb4⟩;have Ha:=Za (Ha.out.later (Below.trans (Below.refl _ _).drew hb4)))
    |(go_at_call 143;refine Sb (hpl _) fun w5 hb5=>?_;have Ha:=Za (Ha.out.later hb5)))
  clear Z q0 q1 q2 q3 q4 q5 q6 s0 s1 s2 r0 r1 r2 r3 r4 p0 p1 p2 g0 g1 g2 f0 f1 f2 hlk hpl;obtain⟨⟨q0,q1,q2,q3,q4,q5,q6⟩,⟨s0,s1,s2⟩,⟨r0,r1,r2,r3,r4⟩,⟨p0,p1,p2⟩,⟨g0,g1,g2⟩,⟨f0,f1,f2⟩,hB⟩:=Ha.out;clear hB
  first
   |(have hz:(n != W)=false:=hne;clear hz;go_upto_region 13 with fail;have Hc:=Ha;clear Ha;obtain⟨⟨q0,q1,q2,q3,q4,q5,q6⟩,⟨s0,s1,s2⟩,⟨r0,r1,r2,r3,r4⟩,⟨p0,p1,p2⟩,⟨g0,g1,g2⟩,⟨f0,f1,f2⟩,hB⟩:=Hc.out;rename World=>w6)
   |(go_upto_region 13 with(go_at_call 94;refine Sm (hm1 _) ?_);have Hc:=Za (Ha.out.setD y);clear Ha;generalize hw5:World.setCell _ _ (Vi y)=w6 at *;clear hw5;clear q0 q1 q2 q3 q4 q5 q6 s0 s1 s2 r0 r1 r2 r3 r4 p0 p1 p2 g0 g1 g2 f0 f1 f2;obtain⟨⟨q0,q1,q2,q3,q4,q5,q6⟩,⟨s0,s1,s2⟩,⟨r0,r1,r2,r3,r4⟩,⟨p0,p1,p2⟩,⟨g0,g1,g2⟩,⟨f0,f1,f2⟩,hB⟩:=Hc.out)
  have Z:=Za (show(Kc w6 w.heap.size 0 (Vi L)∧Kc w6 w.heap.size 1 (Vi H)∧Kc w6 w.heap.size 2 (Vi U)∧Kc w6 w.heap.size 3 (Vi B)∧Kc w6 w.heap.size 4 (Vi M)∧Kc w6 w.heap.size 5 (.slice (some (Ad ba oa)) al.length ca)∧Kc w6 w.heap.size 6 (.slice (some (Ad bz oz)) zl.length cz))∧(Kc w6 (w.heap.size+1) 0 (Vi x2)∧Kc w6 (w.heap.size+1) 1 (Vi y)∧Kc w6 (w.heap.size+1) 2 (Vi n))∧Bw w w6 from⟨⟨q0,q1,q2,q3,q4,q5,q6⟩,⟨s0,s1,s2⟩,hB⟩);clear hB q0 q1 q2 q3 q4 q5 q6 s0 s1 s2 r0 r1 r2 r3 r4 g0 g1 g2
  go_region_held3 (fun u=>(Kc u w.heap.size 0 (Vi L)∧Kc u w.heap.size 1 (Vi H)∧Kc u w.heap.size 2 (Vi U)∧Kc u w.heap.size 3 (Vi B)∧Kc u w.heap.size 4 (Vi M)∧Kc u w.heap.size 5 (.slice (some (Ad ba oa)) al.length ca)∧Kc u w.heap.size 6 (.slice (some (Ad bz oz)) zl.length cz))∧(Kc u (w.heap.size+1) 0 (Vi x2)∧Kc u (w.heap.size+1) 1 (Vi y)∧Kc u (w.heap.size+1) 2 (Vi n))∧Bw w u)
   (first
    |(with_reducible assumption)
    |(with_reducible apply keepSE;with_reducible assumption;with_reducible assumption)
    |((repeat (with_reducible first|exact Z.out|assumption|refine keepSE (Below.refl _ _).drew ?_|refine keepSEs ?_));done))
   (first
    |(go_at_call 94;refine Sm (hm2 _) ?_))
  all_goals
   rename_i hH
   have HB:=Za hH.2.2;clear hH;go_wp2_with fail;refine bodyPost_ret (v:=.tuple #[Vi wt,.agg #[Vi x2,Vi y,Vi n]]) ?_ rfl ⟨rfl,HB.out⟩
   simp[results,results96,go_sem,p0,p1,p2]
theorem refWanted_any(L H U B M:Int)(a z:Option Addr)(ca cz:Nat)(al zl:List Int)(A D W k p v n q:Int)(h0:hoE L H U B M al zl A D W k n q=0)(w:World)(ha:Lst w a al)(hz:Lst w z zl):
 Calls prog 96 #[.agg (Qar L H U B M a z al zl ca cz),.agg #[Vi A,Vi D,Vi W],.agg #[Vi k,Vi p,Vi v,Vi n,Vi q]] w (Rt w (.tuple #[Vi (wX L H U M al zl A D W k p v n q),.agg #[Vi (wA L H U A W k p n),Vi (wD L H U M al zl A D W k p v n q),Vi n]])):=by
 obtain⟨e1,e2,e3⟩:=Wh h0;obtain⟨e4,e5,e6,_⟩:=X8 e1;obtain⟨_,_,_,_,m0,m1⟩:=X7 e4;obtain⟨⟨k0,k1⟩,⟨n0,n3'⟩,_,_⟩:=asB_true e3
 by_cases n1:n≤1
 · have:=wanted_hold L H U B M a z ca cz al zl A D W k p v n q h0 n1 w ha hz
   unfold wX wA wD;rw[if_pos n1,if_pos n1,if_pos n1];exact this
 · unfold wX wA wD;rw[if_neg n1,if_neg n1,if_neg n1]
   have HX:=Za (HW.new w L H U B M a z al.length zl.length ca cz A D n k p v n q);have hhu:=refHun_any k M k0 k1 (by omega) (by omega);clear h0 e1 e2 e3 e4 e6 ha hz
   by_cases n2:n=2
   · rw[if_pos n2];subst n2;generalize hunI k M=hu at*
     go_enter func96,ntmps96
     go_upto_region 4 with fail;generalize hw2:World.alloc (World.alloc (World.alloc (World.alloc _ _) _) _) _=w2 at *;clear hw2;obtain⟨⟨q0,q1,q2,q3,q4,q5,q6⟩,⟨s0,s1,s2⟩,⟨r0,r1,r2,r3,r4⟩,⟨p0,p1,p2⟩,⟨g0,g1,g2⟩,⟨f0,f1,f2⟩,hB⟩:=HX.out;have Z:=Za (show(Kc w2 w.heap.size 4 (Vi M)∧Kc w2 (w.heap.size+1+1) 0 (Vi k))∧(Kc w2 (w.heap.size+1) 0 (Vi A)∧Kc w2 (w.heap.size+1) 1 (Vi D)∧Kc w2 (w.heap.size+1) 2 (Vi 2))∧Bw w w2 from⟨⟨q4,r0⟩,⟨s0,s1,s2⟩,hB⟩);clear hB q0 q1 q2 q3 q4 q5 q6 s0 s1 s2 r0 r1 r2 r3 r4 g0 g1 g2
     go_region_held3 (fun u=>(Kc u w.heap.size 4 (Vi M)∧Kc u (w.heap.size+1+1) 0 (Vi k))∧(Kc u (w.heap.size+1) 0 (Vi A)∧Kc u (w.heap.size+1) 1 (Vi D)∧Kc u (w.heap.size+1) 2 (Vi 2))∧Bw w u)
      (first
       |(with_reducible assumption)
       |(with_reducible apply keepS2;with_reducible assumption;with_reducible assumption)
       |((repeat (with_reducible first|exact Z.out|assumption|refine keepS2 (Below.refl _ _).drew ?_|refine keepS2s ?_));done))
      (first
       |(go_at_call 142;refine Sm (hhu _) ?_))
     all_goals
      rename_i hH
      have HB:=Za hH.2.2;clear hH;go_wp2_with fail;refine bodyPost_ret (v:=.tuple #[Vi hu,.agg #[Vi A,Vi D,Vi 2]]) ?_ rfl ⟨rfl,HB.out⟩
      simp[results,results96,go_sem,p0,p1,p2]
   · rw[if_neg n2]
     obtain rfl:n=3:=by omega
     clear n1 n2 n0 n3' hhu
     go_enter func96,ntmps96
     go_upto_region 6 with fail;generalize hw2:World.alloc (World.alloc (World.alloc (World.alloc _ _) _) _) _=w2 at *;clear hw2;obtain⟨⟨q0,q1,q2,q3,q4,q5,q6⟩,⟨s0,s1,s2⟩,⟨r0,r1,r2,r3,r4⟩,⟨p0,p1,p2⟩,⟨g0,g1,g2⟩,⟨f0,f1,f2⟩,hB⟩:=HX.out;have Z:=Za (show(Kc w2 w.heap.size 4 (Vi M)∧Kc w2 (w.heap.size+1+1) 0 (Vi k))∧(Kc w2 (w.heap.size+1) 0 (Vi A)∧Kc w2 (w.heap.size+1) 1 (Vi D)∧Kc w2 (w.heap.size+1) 2 (Vi 3))∧Bw w w2 from⟨⟨q4,r0⟩,⟨s0,s1,s2⟩,hB⟩);clear hB q0 q1 q2 q3 q4 q5 q6 s0 s1 s2 r0 r1 r2 r3 r4 g0 g1 g2
     go_region_held3 (fun u=>(Kc u w.heap.size 4 (Vi M)∧Kc u (w.heap.size+1+1) 0 (Vi k))∧(Kc u (w.heap.size+1) 0 (Vi A)∧Kc u (w.heap.size+1) 1 (Vi D)∧Kc u (w.heap.size+1) 2 (Vi 3))∧Bw w u)
      (first
       |(with_reducible assumption)
       |(with_reducible apply keepS2;with_reducible assumption;with_reducible assumption)
       |((repeat (with_reducible first|exact Z.out|assumption|refine keepS2 (Below.refl _ _).drew ?_|refine keepS2s ?_));done))
      (fail)
     all_goals
      rename_i hH
      have HB:=Za hH.2.2;clear hH;go_wp2_with fail;refine bodyPost_ret (v:=.tuple #[Vi 0,.agg #[Vi A,Vi D,Vi 3]]) ?_ rfl ⟨rfl,HB.out⟩
      simp[results,results96,go_sem,p0,p1,p2]
theorem clipMove_ex(L H U B M:Int)(a z:Option Addr)(al zl ca cz:Nat)(x:Int)(m0:1≤M)(m1:M≤4000)(w:World):
 Calls prog 224 #[.agg #[Vi L,Vi H,Vi U,Vi B,Vi M,.slice a al ca,.slice z zl cz],Vi x] w fun e w'=>e=.returned (Vi (Ze x (-M) M))∧w'=w.alloc (.cells #[Vi L,Vi H,Vi U,Vi B,Vi M,.slice a al ca,.slice z zl cz] 107):=by
 have c1:=Yu x (-M) M;generalize Ze x (-M) M=m at*
 go_enter func224,ntmps224
 go_wp2_with (go_at_call 172;refine Sm (c1 _) ?_);go_ret;exact⟨rfl,rfl⟩
theorem holdPull_ex(aim p g:Int)(a0:-100000≤aim)(a1:aim≤100000)(w:World):
 Calls prog 225 #[Vi aim,Vi p,Vi g] w fun e w'=>e=.returned (Vi (Y5 g aim p))∧w'=w.drew:=by
 have c1:=Yu p (-2000000) 2000000;have b1:=Xk p (lo:=-2000000) (hi:=2000000) (by omega);have c2:=Yu (aim-Ze p (-2000000) 2000000) (-1000000) 1000000;have c3:=fixMul_any g (Ze (aim-Ze p (-2000000) 2000000) (-1000000) 1000000);obtain⟨b2,b3⟩:=b1
 unfold Y5
 generalize mulI g (Ze (aim-Ze p (-2000000) 2000000) (-1000000) 1000000)=m at *;generalize Ze (aim-Ze p (-2000000) 2000000) (-1000000) 1000000=y at *;generalize Ze p (-2000000) 2000000=x at*
 go_enter func225,ntmps225
 go_wp2_with (first
  |((first|go_at_call_of 172 (Vi p)|go_at_call_of 172 (Value.int .i64 p));refine Sm (c1 _) ?_)
  |((first|go_at_call_of 172 (Vi (aim-x))|go_at_call_of 172 (Value.int .i64 (aim-x)));refine Sm (c2 _) ?_)
  |(go_at_call 85;refine Sm (c3 _) ?_))
 go_ret;exact⟨rfl,rfl⟩
theorem refPull_ex(g aim k p v n q:Int)(a0:-100000≤aim)(a1:aim≤100000)(w:World):
 Calls prog 143 #[Vi g,Vi aim,.agg #[Vi k,Vi p,Vi v,Vi n,Vi q]] w fun e w'=>e=.returned (Vi (Y5 g aim p))∧w'=w.alloc (.cells #[Vi k,Vi p,Vi v,Vi n,Vi q] 110):=by
 have c1:=Yr p (-2000000) 2000000 (by omega);have b1:=Xk p (lo:=-2000000) (hi:=2000000) (by omega);have c2:=Yr (aim-Ze p (-2000000) 2000000) (-1000000) 1000000 (by omega);have c3:=refMul_any g (Ze (aim-Ze p (-2000000) 2000000) (-1000000) 1000000);obtain⟨b2,b3⟩:=b1
 unfold Y5
 generalize mulI g (Ze (aim-Ze p (-2000000) 2000000) (-1000000) 1000000)=m at *;generalize Ze (aim-Ze p (-2000000) 2000000) (-1000000) 1000000=y at *;generalize Ze p (-2000000) 2000000=x at*
 go_enter func143,ntmps143
 go_wp2_with (first
  |((first|go_at_call_of 94 (Vi p)|go_at_call_of 94 (Value.int .i64 p));refine Sm (c1 _) ?_)
  |((first|go_at_call_of 94 (Vi (aim-x))|go_at_call_of 94 (Value.int .i64 (aim-x)));refine Sm (c2 _) ?_)
  |(go_at_call 198;refine Sm (c3 _) ?_))
 go_ret;exact⟨rfl,rfl⟩
theorem Ya(hb:Bw u u')(h:(Kc u w.heap.size 3 (Vi B)∧Kc u w.heap.size 4 (Vi M)∧Kc u (w.heap.size+1) 0 (Vi A))∧(Kc u (w.heap.size+1+1) 0 (Vi k)∧Kc u (w.heap.size+1+1) 1 (Vi p)∧Kc u (w.heap.size+1+1) 2 (Vi v)∧Kc u (w.heap.size+1+1) 3 (Vi n)∧Kc u (w.heap.size+1+1) 4 (Vi q))∧Bw w u):(Kc u' w.heap.size 3 (Vi B)∧Kc u' w.heap.size 4 (Vi M)∧Kc u' (w.heap.size+1) 0 (Vi A))∧(Kc u' (w.heap.size+1+1) 0 (Vi k)∧Kc u' (w.heap.size+1+1) 1 (Vi p)∧Kc u' (w.heap.size+1+1) 2 (Vi v)∧Kc u' (w.heap.size+1+1) 3 (Vi n)∧Kc u' (w.heap.size+1+1) 4 (Vi q))∧Bw w u':=
 ⟨⟨Zk hb h.1.1,Zk hb h.1.2.1,Zk hb h.1.2.2⟩,⟨Zk hb h.2.1.1,Zk hb h.2.1.2.1,Zk hb h.2.1.2.2.1,Zk hb h.2.1.2.2.2.1,Zk hb h.2.1.2.2.2.2⟩,Zc h.2.2 hb⟩
theorem Wi(h:(Kc u w.heap.size 3 (Vi B)∧Kc u w.heap.size 4 (Vi M)∧Kc u (w.heap.size+1) 0 (Vi A))∧(Kc u (w.heap.size+1+1) 0 (Vi k)∧Kc u (w.heap.size+1+1) 1 (Vi p)∧Kc u (w.heap.size+1+1) 2 (Vi v)∧Kc u (w.heap.size+1+1) 3 (Vi n)∧Kc u (w.heap.size+1+1) 4 (Vi q))∧Bw w u):((u.setCell (Ad (w.heap.size+1) 1) x).cell? (Ad w.heap.size 3)=some (Vi B)∧(u.setCell (Ad (w.heap.size+1) 1) x).cell? (Ad w.heap.size 4)=some (Vi M)∧(u.setCell (Ad (w.heap.size+1) 1) x).cell? (Ad (w.heap.size+1) 0)=some (Vi A))∧((u.setCell (Ad (w.heap.size+1) 1) x).cell? (Ad (w.heap.size+1+1) 0)=some (Vi k)∧(u.setCell (Ad (w.heap.size+1) 1) x).cell? (Ad (w.heap.size+1+1) 1)=some (Vi p)∧(u.setCell (Ad (w.heap.size+1) 1) x).cell? (Ad (w.heap.size+1+1) 2)=some (Vi v)∧(u.setCell (Ad (w.heap.size+1) 1) x).cell? (Ad (w.heap.size+1+1) 3)=some (Vi n)∧(u.setCell (Ad (w.heap.size+1) 1) x).cell? (Ad (w.heap.size+1+1) 4)=some (Vi q))∧Bw w (u.setCell (Ad (w.heap.size+1) 1) x):=by
 have n0:w.heap.size+1≠w.heap.size:=by omega
 have n2:w.heap.size+1≠w.heap.size+1+1:=by omega
 exact⟨⟨Zh n0 h.1.1,Zh n0 h.1.2.1,Wt (by decide) h.1.2.2⟩,⟨Zh n2 h.2.1.1,Zh n2 h.2.1.2.1,Zh n2 h.2.1.2.2.1,Zh n2 h.2.1.2.2.2.1,Zh n2 h.2.1.2.2.2.2⟩,h.2.2.setCell (by simp) _⟩
theorem Yb(hb:Bw u u')(h:(Kc u w.heap.size 0 (Vi L)∧Kc u w.heap.size 1 (Vi H)∧Kc u w.heap.size 2 (Vi U)∧Kc u w.heap.size 3 (Vi B)∧Kc u w.heap.size 4 (Vi M)∧Kc u w.heap.size 5 (.slice a la ca)∧Kc u w.heap.size 6 (.slice z lz cz))∧(Kc u (w.heap.size+1) 0 (Vi A)∧Kc u (w.heap.size+1+1) 1 (Vi p))∧Bw w u):(Kc u' w.heap.size 0 (Vi L)∧Kc u' w.heap.size 1 (Vi H)∧Kc u' w.heap.size 2 (Vi U)∧Kc u' w.heap.size 3 (Vi B)∧Kc u' w.heap.size 4 (Vi M)∧Kc u' w.heap.size 5 (.slice a la ca)∧Kc u' w.heap.size 6 (.slice z lz cz))∧(Kc u' (w.heap.size+1) 0 (Vi A)∧Kc u' (w.heap.size+1+1) 1 (Vi p))∧Bw w u':=
 ⟨⟨Zk hb h.1.1,Zk hb h.1.2.1,Zk hb h.1.2.2.1,Zk hb h.1.2.2.2.1,Zk hb h.1.2.2.2.2.1,Zk hb h.1.2.2.2.2.2.1,Zk hb h.1.2.2.2.2.2.2⟩,⟨Zk hb h.2.1.1,Zk hb h.2.1.2⟩,Zc h.2.2 hb⟩
theorem Wj(h:(Kc u w.heap.size 0 (Vi L)∧Kc u w.heap.size 1 (Vi H)∧Kc u w.heap.size 2 (Vi U)∧Kc u w.heap.size 3 (Vi B)∧Kc u w.heap.size 4 (Vi M)∧Kc u w.heap.size 5 (.slice a la ca)∧Kc u w.heap.size 6 (.slice z lz cz))∧(Kc u (w.heap.size+1) 0 (Vi A)∧Kc u (w.heap.size+1+1) 1 (Vi p))∧Bw w u):((u.setCell (Ad (w.heap.size+1) 1) x).cell? (Ad w.heap.size 0)=some (Vi L)∧(u.setCell (Ad (w.heap.size+1) 1) x).cell? (Ad w.heap.size 1)=some (Vi H)∧(u.setCell (Ad (w.heap.size+1) 1) x).cell? (Ad w.heap.size 2)=some (Vi U)∧(u.setCell (Ad (w.heap.size+1) 1) x).cell? (Ad w.heap.size 3)=some (Vi B)∧(u.setCell (Ad (w.heap.size+1) 1) x).cell? (Ad w.heap.size 4)=some (Vi M)∧(u.setCell (Ad (w.heap.size+1) 1) x).cell? (Ad w.heap.size 5)=some (.slice a la ca)∧(u.setCell (Ad (w.heap.size+1) 1) x).cell? (Ad w.heap.size 6)=some (.slice z lz cz))∧((u.setCell (Ad (w.heap.size+1) 1) x).cell? (Ad (w.heap.size+1) 0)=some (Vi A)∧(u.setCell (Ad (w.heap.size+1) 1) x).cell? (Ad (w.heap.size+1+1) 1)=some (Vi p))∧Bw w (u.setCell (Ad (w.heap.size+1) 1) x):=by
 have n0:w.heap.size+1≠w.heap.size:=by omega
 have n2:w.heap.size+1≠w.heap.size+1+1:=by omega
 exact⟨⟨Zh n0 h.1.1,Zh n0 h.1.2.1,Zh n0 h.1.2.2.1,Zh n0 h.1.2.2.2.1,Zh n0 h.1.2.2.2.2.1,Zh n0 h.1.2.2.2.2.2.1,Zh n0 h.1.2.2.2.2.2.2⟩,⟨Wt (by decide) h.2.1.1,Zh n2 h.2.1.2⟩,h.2.2.setCell (by simp) _⟩
theorem refTold_any(L H U B M:Int)(a z:Option Addr)(la lz ca cz:Nat)(A D W k p v n q want got:Int)(a0:-100000≤A)(a1:A≤100000)(m0:1≤M)(m1:M≤4000)(d0:-M≤D)(d1:D≤M)(w:World):
 Calls prog 99 #[.agg #[Vi L,Vi H,Vi U,Vi B,Vi M,.slice a la ca,.slice z lz cz],.agg #[Vi A,Vi D,Vi W],.agg #[Vi k,Vi p,Vi v,Vi n,Vi q],Vi want,Vi got] w (Rt w (.agg #[Vi A,Vi (toD B M A D p n want got),Vi W])):=by
 have HX:=Za (HW.new w L H U B M a z la lz ca cz A D W k p v n q)
 unfold toD
 by_cases hg:want=got
 · by_cases hn:n=0
   · rw[if_pos ⟨hn,hg.symm⟩]
     have hg':(want==got)=true:=by simpa using hg
     have hn':(n==0)=true:=by simpa using hn
     clear hg hn;have hpl:=refPull_ex B A k p v n q a0 a1;have ppb:=Un B A p;generalize Y5 B A p=pp at *;obtain⟨pp0,pp1⟩:=ppb;have hm2:=Yr (D+pp) (-M) M (by omega);generalize Ze (D+pp) (-M) M=y at *;have v2:=Wr (D+pp);have v3:=Wr (-M)
     go_enter func99,ntmps99
     go_upto_region 2 with fail;generalize hw2:World.alloc (World.alloc (World.alloc (World.alloc _ _) _) _) _=w2 at *;clear hw2;obtain⟨⟨q0,q1,q2,q3,q4,q5,q6⟩,⟨s0,s1,s2⟩,⟨r0,r1,r2,r3,r4⟩,⟨p0,p1,p2⟩,⟨g0,g1,g2⟩,⟨f0,f1,f2⟩,hB⟩:=HX.out;have Z:=Za (show(Kc w2 w.heap.size 3 (Vi B)∧Kc w2 w.heap.size 4 (Vi M)∧Kc w2 (w.heap.size+1) 0 (Vi A))∧(Kc w2 (w.heap.size+1+1) 0 (Vi k)∧Kc w2 (w.heap.size+1+1) 1 (Vi p)∧Kc w2 (w.heap.size+1+1) 2 (Vi v)∧Kc w2 (w.heap.size+1+1) 3 (Vi n)∧Kc w2 (w.heap.size+1+1) 4 (Vi q))∧Bw w w2 from⟨⟨q3,q4,s0⟩,⟨r0,r1,r2,r3,r4⟩,hB⟩);have x1:=Zk (Zb w2 (.cells #[Vi k,Vi p,Vi v,Vi n,Vi q] 110)) s1;have x2:=Yq (Zb w2 (.cells #[Vi k,Vi p,Vi v,Vi n,Vi q] 110)) s1 g1;clear hB;apply htwice
     · intro hk;refine wp_region_held_drew (S:=fun u=>(Kc u w.heap.size 3 (Vi B)∧Kc u w.heap.size 4 (Vi M)∧Kc u (w.heap.size+1) 0 (Vi A))∧(Kc u (w.heap.size+1+1) 0 (Vi k)∧Kc u (w.heap.size+1+1) 1 (Vi p)∧Kc u (w.heap.size+1+1) 2 (Vi v)∧Kc u (w.heap.size+1+1) 3 (Vi n)∧Kc u (w.heap.size+1+1) 4 (Vi q))∧Bw w u) (by kernel_rfl) (by first|exact Ya (Below.refl _ _).drew Z.out|(repeat (with_reducible first|exact Z.out|refine Ya (Below.refl _ _).drew ?_|refine Ya (Zb _ _) ?_|refine Wi ?_))) (fun hHeld=>?_);refine Tp 0 (by assumption) ?_;(try simp only[Act.put]);refine Tp 2 (by assumption) ?_;(try simp only[Act.put]);refine Tp 3 (by assumption) ?_;(try simp only[Act.put]);refine Tp 4 (by assumption) ?_;(try simp only[Act.put]);refine Tp 5 (by assumption) ?_;(try simp only[Act.put]);refine Tp 6 (by assumption) ?_;(try simp only[Act.put]);refine Tp 9 (by assumption) ?_;(try simp only[Act.put]);refine Tp 10 (by assumption) ?_;(try simp only[Act.put]);refine Tp 11 (by assumption) ?_;(try simp only[Act.put]);refine Tp 12 (by assumption) ?_;(try simp only[Act.put]);refine Tp 13 (by assumption) ?_;(try simp only[Act.put]);refine Rb 1 7 (fun K hK=>?_) (fun K hK=>?_)
       · go_simp;refine hK.out _ _ (by first|exact Ya (Below.refl _ _).drew Z.out|(repeat (with_reducible first|exact Z.out|refine Ya (Below.refl _ _).drew ?_|refine Ya (Zb _ _) ?_|refine Wi ?_))) (fun hHeld=>?_);clear hK K;refine Ra 7 (fun K hK=>?_);go_simp;refine Sm (hpl _) ?_;go_wp2_with fail;refine hK.out _ _ (by first|exact Ya (Below.refl _ _).drew Z.out|(repeat (with_reducible first|exact Z.out|refine Ya (Below.refl _ _).drew ?_|refine Ya (Zb _ _) ?_|refine Wi ?_))) (fun hHeld=>?_);clear hK K;refine Tp 8 (by assumption) ?_;(try simp only[Act.put]);refine Ra 14 (fun K hK=>?_);go_simp;refine Sm (hm2 _) ?_;go_wp2_with fail;refine hK.out _ _ (by first|exact Ya (Below.refl _ _).drew Z.out|(repeat (with_reducible first|exact Z.out|refine Ya (Below.refl _ _).drew ?_|refine Ya (Zb _ _) ?_|refine Wi ?_))) (fun hHeld=>?_);clear hK K;refine Tp 15 (by assumption) ?_;(try simp only[Act.put]);refine Ra 16 (fun K hK=>?_);go_simp;refine hK.out _ _ (by first|exact Ya (Below.refl _ _).drew Z.out|(repeat (with_reducible first|exact Z.out|refine Ya (Below.refl _ _).drew ?_|refine Ya (Zb _ _) ?_|refine Wi ?_))) (fun hHeld=>?_);clear hK K;refine Dn ?_;exact hk
       · go_simp;refine Sm (hpl _) ?_;go_wp2_with fail;refine hK.out _ _ (by first|exact Ya (Below.refl _ _).drew Z.out|(repeat (with_reducible first|exact Z.out|refine Ya (Below.refl _ _).drew ?_|refine Ya (Zb _ _) ?_|refine Wi ?_))) (fun hHeld=>?_);clear hK K;refine Ra 1 (fun K hK=>?_);go_simp;refine hK.out _ _ (by first|exact Ya (Below.refl _ _).drew Z.out|(repeat (with_reducible first|exact Z.out|refine Ya (Below.refl _ _).drew ?_|refine Ya (Zb _ _) ?_|refine Wi ?_))) (fun hHeld=>?_);clear hK K;refine Tp 8 (by assumption) ?_;(try simp only[Act.put]);refine Ra 14 (fun K hK=>?_);go_simp;refine Sm (hm2 _) ?_;go_wp2_with fail;refine hK.out _ _ (by first|exact Ya (Below.refl _ _).drew Z.out|(repeat (with_reducible first|exact Z.out|refine Ya (Below.refl _ _).drew ?_|refine Ya (Zb _ _) ?_|refine Wi ?_))) (fun hHeld=>?_);clear hK K;refine Tp 15 (by assumption) ?_;(try simp only[Act.put]);refine Ra 16 (fun K hK=>?_);go_simp;refine hK.out _ _ (by first|exact Ya (Below.refl _ _).drew Z.out|(repeat (with_reducible first|exact Z.out|refine Ya (Below.refl _ _).drew ?_|refine Ya (Zb _ _) ?_|refine Wi ?_))) (fun hHeld=>?_);clear hK K;refine Dn ?_;exact hk
     have Ha:=Za (((HX.out.later (Zb _ (.cells #[Vi k,Vi p,Vi v,Vi n,Vi q] 110))).setD y).later (Below.refl _ _).drew);generalize hw3:World.drew (World.setCell _ _ (Vi y))=w3 at *;clear hw3 HX Z q0 q1 q2 q3 q4 q5 q6 s0 s1 s2 r0 r1 r2 r3 r4 p0 p1 p2 g0 g1 g2 f0 f1 f2 x1 x2;obtain⟨⟨q0,q1,q2,q3,q4,q5,q6⟩,⟨s0,s1,s2⟩,⟨r0,r1,r2,r3,r4⟩,⟨p0,p1,p2⟩,⟨g0,g1,g2⟩,⟨f0,f1,f2⟩,hB⟩:=Ha.out;go_wp2_with fail;refine bodyPost_ret (v:=.agg #[Vi A,Vi y,Vi W]) ?_ rfl ⟨rfl,((hB.setCell (by simp;omega) _).setCell (by simp;omega) _).setCell (by simp;omega) _⟩
     simp[results,results99,go_sem,p0,p1,p2]
   · rw[if_neg (fun h=>hn h.1)]
     have hg':(want==got)=true:=by simpa using hg
     have hn':(n==0)=false:=by simpa using hn
     clear hg hn
     go_enter func99,ntmps99
     go_wp2_with fail;exact bodyPost_ret (v:=.agg #[Vi A,Vi D,Vi W]) (by simp[results,results99,go_sem]) rfl ⟨rfl,by repeat (first|exact Zb _ _|refine Zc ?_ (Zb _ _))⟩
 · rw[if_neg (fun h=>hg h.2.symm)]
   have hg':(want==got)=false:=by simpa using hg
   clear hg
   go_enter func99,ntmps99
   go_wp2_with fail;exact bodyPost_ret (v:=.agg #[Vi A,Vi D,Vi W]) (by simp[results,results99,go_sem]) rfl ⟨rfl,by repeat (first|exact Zb _ _|refine Zc ?_ (Zb _ _))⟩
end Go.Proofs.YtnfdfiholcelaaaGreatDoor
