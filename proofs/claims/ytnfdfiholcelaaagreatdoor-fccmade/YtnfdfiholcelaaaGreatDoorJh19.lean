
import Derived.Test.YtnfdfiholcelaaaGreatDoorJh00
import Derived.Test.YtnfdfiholcelaaaGreatDoorJh18
set_option maxRecDepth 100000
set_option maxHeartbeats 20000000
namespace Go.Proofs.YtnfdfiholcelaaaGreatDoor
open Go.RowKit Plain Tryz
theorem keepS2{w u u':World}{M A D W k:Int}(hb:Below u.heap.size u u')(h:(u.cell? (Ad w.heap.size 4)=some (Vi M)∧u.cell? (Ad (w.heap.size+1+1) 0)=some (Vi k))∧(u.cell? (Ad (w.heap.size+1) 0)=some (Vi A)∧u.cell? (Ad (w.heap.size+1) 1)=some (Vi D)∧u.cell? (Ad (w.heap.size+1) 2)=some (Vi W))∧Below w.heap.size w u):(u'.cell? (Ad w.heap.size 4)=some (Vi M)∧u'.cell? (Ad (w.heap.size+1+1) 0)=some (Vi k))∧(u'.cell? (Ad (w.heap.size+1) 0)=some (Vi A)∧u'.cell? (Ad (w.heap.size+1) 1)=some (Vi D)∧u'.cell? (Ad (w.heap.size+1) 2)=some (Vi W))∧Below w.heap.size w u':=
 ⟨⟨Zaf hb h.1.1,Zaf hb h.1.2⟩,⟨Zaf hb h.2.1.1,Zaf hb h.2.1.2.1,Zaf hb h.2.1.2.2⟩,Zac h.2.2 hb⟩
theorem keepS2s{w u:World}{M A D W k:Int}{j:Nat}{x:Value}(h:(u.cell? (Ad w.heap.size 4)=some (Vi M)∧u.cell? (Ad (w.heap.size+1+1) 0)=some (Vi k))∧(u.cell? (Ad (w.heap.size+1) 0)=some (Vi A)∧u.cell? (Ad (w.heap.size+1) 1)=some (Vi D)∧u.cell? (Ad (w.heap.size+1) 2)=some (Vi W))∧Below w.heap.size w u):((u.setCell (Ad (w.heap.size+1+1+1) j) x).cell? (Ad w.heap.size 4)=some (Vi M)∧(u.setCell (Ad (w.heap.size+1+1+1) j) x).cell? (Ad (w.heap.size+1+1) 0)=some (Vi k))∧((u.setCell (Ad (w.heap.size+1+1+1) j) x).cell? (Ad (w.heap.size+1) 0)=some (Vi A)∧(u.setCell (Ad (w.heap.size+1+1+1) j) x).cell? (Ad (w.heap.size+1) 1)=some (Vi D)∧(u.setCell (Ad (w.heap.size+1+1+1) j) x).cell? (Ad (w.heap.size+1) 2)=some (Vi W))∧Below w.heap.size w (u.setCell (Ad (w.heap.size+1+1+1) j) x):=by
 have n0:w.heap.size+1+1+1≠w.heap.size:=by omega
 have n1:w.heap.size+1+1+1≠w.heap.size+1:=by omega
 have n2:w.heap.size+1+1+1≠w.heap.size+1+1:=by omega
 exact⟨⟨Zah n0 h.1.1,Zah n2 h.1.2⟩,⟨Zah n1 h.2.1.1,Zah n1 h.2.1.2.1,Zah n1 h.2.1.2.2⟩,h.2.2.setCell (by simp;omega) _⟩
theorem keepSP{w u u':World}{ba oa bz oz la lz ca cz:Nat}{A k p v n q:Int}(hb:Below u.heap.size u u')(h:(u.cell? (Ad w.heap.size 5)=some (.slice (some (Ad ba oa)) la ca)∧u.cell? (Ad w.heap.size 6)=some (.slice (some (Ad bz oz)) lz cz)∧u.cell? (Ad (w.heap.size+1) 0)=some (Vi A))∧(u.cell? (Ad (w.heap.size+1+1) 0)=some (Vi k)∧u.cell? (Ad (w.heap.size+1+1) 1)=some (Vi p)∧u.cell? (Ad (w.heap.size+1+1) 2)=some (Vi v)∧u.cell? (Ad (w.heap.size+1+1) 3)=some (Vi n)∧u.cell? (Ad (w.heap.size+1+1) 4)=some (Vi q))∧Below w.heap.size w u):(u'.cell? (Ad w.heap.size 5)=some (.slice (some (Ad ba oa)) la ca)∧u'.cell? (Ad w.heap.size 6)=some (.slice (some (Ad bz oz)) lz cz)∧u'.cell? (Ad (w.heap.size+1) 0)=some (Vi A))∧(u'.cell? (Ad (w.heap.size+1+1) 0)=some (Vi k)∧u'.cell? (Ad (w.heap.size+1+1) 1)=some (Vi p)∧u'.cell? (Ad (w.heap.size+1+1) 2)=some (Vi v)∧u'.cell? (Ad (w.heap.size+1+1) 3)=some (Vi n)∧u'.cell? (Ad (w.heap.size+1+1) 4)=some (Vi q))∧Below w.heap.size w u':=
 ⟨⟨Zaf hb h.1.1,Zaf hb h.1.2.1,Zaf hb h.1.2.2⟩,⟨Zaf hb h.2.1.1,Zaf hb h.2.1.2.1,Zaf hb h.2.1.2.2.1,Zaf hb h.2.1.2.2.2.1,Zaf hb h.2.1.2.2.2.2⟩,Zac h.2.2 hb⟩
theorem wanted_hold(L H U B M:Int)(a z:Option Addr)(ca cz:Nat)(al zl:List Int)(A D W k p v n q:Int)(h0:hoE L H U B M al zl A D W k n q=0)(n1:n≤1)(w:World)(ha:Lst w a al)(hz:Lst w z zl):
 Calls prog 96 #[.agg #[Vi L,Vi H,Vi U,Vi B,Vi M,.slice a al.length ca,.slice z zl.length cz],.agg #[Vi A,Vi D,Vi W],.agg #[Vi k,Vi p,Vi v,Vi n,Vi q]] w fun e w'=>e=.returned (.tuple #[Vi (wtI L H U M al zl A D W k p v n q),.agg #[Vi (a2I L H U A W k p n),Vi (d2I L H U M al zl A D W k p v n q),Vi n]])∧Below w.heap.size w w':=by
 obtain⟨e1,e2,e3⟩:=Zec h0;obtain⟨e4,e5,e6,_⟩:=Zda e1;obtain⟨⟨l0,l1⟩,⟨u0,u1⟩,⟨t0,t1⟩,⟨b0,b1⟩,m0,m1⟩:=Zdb e4;obtain⟨⟨a0,a1⟩,⟨d0,d1⟩,_,_⟩:=Zhg e2;obtain⟨⟨k0,k1⟩,⟨n0,_⟩,q0',q1'⟩:=asB_true e3;obtain⟨ba,oa,bz,oz,rfl,rfl,hl⟩:=hline_lies e6 ha hz;have hhu:=refHun_any k U k0 k1 t0 (by omega);have hub:=hunI_bd k0 k1 t0 (show U≤4000 by omega)
 have n2:(n==2)=false:=by simp;omega
 have n3:(n==3)=false:=by simp;omega
 unfold wtI d2I ppI a2I a1I
 have hlk0:=fun u (h:Below w.heap.size w u)=>refLook_ok ba oa ca bz oz cz al zl v u (hl.later h);clear h0 e1 e2 e3 e4 e6 ha hz hl n1;generalize Zfw al zl v=g at *;generalize hunI k U=hu at *;obtain⟨hu0,hu1⟩:=hub
 by_cases hW:n=W
 case' pos=>
  obtain⟨x1,rfl⟩:∃x1,x1=A:=⟨_,rfl⟩;obtain⟨y,rfl⟩:∃y,y=D:=⟨_,rfl⟩;rw[if_pos hW,if_pos hW]
  have hne:(n != W)=false:=by simp[hW]
  clear hW;have hc2:=Zax (x1+hu) L H e5;have x2b:=Zch (x1+hu) e5;generalize Zal (x1+hu) L H=x2 at *;have hpl:=refPull_any g x2 k p v n q (by omega) (by omega);have ppb:=Zhi g x2 p;generalize Zfq g x2 p=pp at *;obtain⟨pp0,pp1⟩:=ppb;have hm2:=Zax (pp+y) (-M) M (by omega);generalize Zal (pp+y) (-M) M=wt at *;have v1:=Wr (x1+hu);have v2:=Wr (pp+y);have v3:=Wr (-M);have hlk:∀u,(u.cell? (Ad w.heap.size 5)=some (.slice (some (Ad ba oa)) al.length ca)∧u.cell? (Ad w.heap.size 6)=some (.slice (some (Ad bz oz)) zl.length cz)∧u.cell? (Ad (w.heap.size+1) 0)=some (Vi x2))∧(u.cell? (Ad (w.heap.size+1+1) 0)=some (Vi k)∧u.cell? (Ad (w.heap.size+1+1) 1)=some (Vi p)∧u.cell? (Ad (w.heap.size+1+1) 2)=some (Vi v)∧u.cell? (Ad (w.heap.size+1+1) 3)=some (Vi n)∧u.cell? (Ad (w.heap.size+1+1) 4)=some (Vi q))∧Below w.heap.size w u→_:=fun u h=>hlk0 u h.2.2;clear hlk0
  go_enter func96,ntmps96
  go_upto_region 9 with fail;have HX2:=Zab (HW.new w L H U B M (some (Ad ba oa)) (some (Ad bz oz)) al.length zl.length ca cz x1 y n k p v n q)
 case' neg=>
  rw[if_neg hW,if_neg hW]
  have hne:(n != W)=true:=by simpa using hW
  clear hW;have hc1:=Zax p L H e5;have x1b:=Zch p e5;generalize Zal p L H=x1 at *;have hc2:=Zax (x1+hu) L H e5;have x2b:=Zch (x1+hu) e5;generalize Zal (x1+hu) L H=x2 at *;have hpl:=refPull_any g x2 k p v n q (by omega) (by omega);have ppb:=Zhi g x2 p;generalize Zfq g x2 p=pp at *;obtain⟨pp0,pp1⟩:=ppb;have hm1:=Zax (q-pp) (-M) M (by omega);have yb:=Zch (q-pp) (lo:=-M) (hi:=M) (by omega);generalize Zal (q-pp) (-M) M=y at *;have hm2:=Zax (pp+y) (-M) M (by omega);generalize Zal (pp+y) (-M) M=wt at *;have v1:=Wr (x1+hu);have v2:=Wr (pp+y);have v3:=Wr (-M);have hlk:∀u,(u.cell? (Ad w.heap.size 5)=some (.slice (some (Ad ba oa)) al.length ca)∧u.cell? (Ad w.heap.size 6)=some (.slice (some (Ad bz oz)) zl.length cz)∧u.cell? (Ad (w.heap.size+1) 0)=some (Vi x2))∧(u.cell? (Ad (w.heap.size+1+1) 0)=some (Vi k)∧u.cell? (Ad (w.heap.size+1+1) 1)=some (Vi p)∧u.cell? (Ad (w.heap.size+1+1) 2)=some (Vi v)∧u.cell? (Ad (w.heap.size+1+1) 3)=some (Vi n)∧u.cell? (Ad (w.heap.size+1+1) 4)=some (Vi q))∧Below w.heap.size w u→_:=fun u h=>hlk0 u h.2.2;clear hlk0
  go_enter func96,ntmps96
  go_upto_region 9 with(go_at_call 94;refine Sm (hc1 _) ?_);have HX2:=Zab (HW.new w L H U B M (some (Ad ba oa)) (some (Ad bz oz)) al.length zl.length ca cz x1 D n k p v n q)
 all_goals
  generalize hw2:World.alloc (World.alloc (World.alloc (World.alloc _ _) _) _) _=w2 at *;clear hw2;obtain⟨⟨q0,q1,q2,q3,q4,q5,q6⟩,⟨s0,s1,s2⟩,⟨r0,r1,r2,r3,r4⟩,⟨p0,p1,p2⟩,⟨g0,g1,g2⟩,⟨f0,f1,f2⟩,hB⟩:=HX2.out;have Z:=Zab (show(w2.cell? (Ad w.heap.size 0)=some (Vi L)∧w2.cell? (Ad w.heap.size 1)=some (Vi H)∧w2.cell? (Ad w.heap.size 2)=some (Vi U)∧w2.cell? (Ad (w.heap.size+1+1) 0)=some (Vi k))∧Below w.heap.size w w2 from⟨⟨q0,q1,q2,r0⟩,hB⟩);clear hB;apply htwice
  · intro hk;refine wp_region_held_drew (S:=fun u=>(u.cell? (Ad w.heap.size 0)=some (Vi L)∧u.cell? (Ad w.heap.size 1)=some (Vi H)∧u.cell? (Ad w.heap.size 2)=some (Vi U)∧u.cell? (Ad (w.heap.size+1+1) 0)=some (Vi k))∧Below w.heap.size w u) (by kernel_rfl) (Zdk (Below.refl _ _).drew Z.out) (fun hHeld=>?_);refine Tp 0 (by assumption) ?_;(try simp only[Act.put]);refine Tp 2 (by assumption) ?_;(try simp only[Act.put]);refine Tp 3 (by assumption) ?_;(try simp only[Act.put]);refine Tp 4 (by assumption) ?_;(try simp only[Act.put]);refine Tp 5 (by assumption) ?_;(try simp only[Act.put]);refine Tp 8 (by assumption) ?_;(try simp only[Act.put]);refine Tp 9 (by assumption) ?_;(try simp only[Act.put]);refine Tp 10 (by assumption) ?_;(try simp only[Act.put]);refine Tp 11 (by assumption) ?_;(try simp only[Act.put]);refine Tp 12 (by assumption) ?_;(try simp only[Act.put]);refine Tp 13 (by assumption) ?_;(try simp only[Act.put]);refine Rb 1 6 (fun K hK=>?_) (fun K hK=>?_)
    · go_simp;refine hK.out _ _ (Zdk (Below.refl _ _).drew Z.out) (fun hHeld=>?_);clear hK K;(try simp only[Act.put]);refine Ra 6 (fun K hK=>?_);go_simp;refine Sm (hhu _) ?_;go_wp2_with fail;refine hK.out _ _ (Zdk (Below.refl _ _).drew Z.out) (fun hHeld=>?_);clear hK K;(try simp only[Act.put]);refine Tp 7 (by assumption) ?_;(try simp only[Act.put]);refine Ra 14 (fun K hK=>?_);go_simp;refine Sm (hc2 _) ?_;go_wp2_with fail;refine hK.out _ _ (Zdk (Below.refl _ _).drew Z.out) (fun hHeld=>?_);clear hK K;(try simp only[Act.put]);refine Tp 15 (by assumption) ?_;(try simp only[Act.put]);refine Ra 16 (fun K hK=>?_);go_simp;refine hK.out _ _ (keepSAs (Zdk (Below.refl _ _).drew Z.out)) (fun hHeld=>?_);clear hK K;(try simp only[Act.put]);refine wpAnyH_done (by kernel_rfl) ?_ _;exact hk
    · go_simp;refine Sm (hhu _) ?_;go_wp2_with fail;refine hK.out _ _ (Zdk (Below.refl _ _).drew Z.out) (fun hHeld=>?_);clear hK K;(try simp only[Act.put]);refine Ra 1 (fun K hK=>?_);go_simp;refine hK.out _ _ (Zdk (Below.refl _ _).drew Z.out) (fun hHeld=>?_);clear hK K;(try simp only[Act.put]);refine Tp 7 (by assumption) ?_;(try simp only[Act.put]);refine Ra 14 (fun K hK=>?_);go_simp;refine Sm (hc2 _) ?_;go_wp2_with fail;refine hK.out _ _ (Zdk (Below.refl _ _).drew Z.out) (fun hHeld=>?_);clear hK K;(try simp only[Act.put]);refine Tp 15 (by assumption) ?_;(try simp only[Act.put]);refine Ra 16 (fun K hK=>?_);go_simp;refine hK.out _ _ (keepSAs (Zdk (Below.refl _ _).drew Z.out)) (fun hHeld=>?_);clear hK K;(try simp only[Act.put]);refine wpAnyH_done (by kernel_rfl) ?_ _;exact hk
  have HX3:=Zab ((HX2.out.setA x2).later (Below.refl _ _).drew);clear HX2 Z;generalize hw3:World.drew (World.setCell _ _ (Vi x2))=w3 at *;clear hw3;clear q0 q1 q2 q3 q4 q5 q6 s0 s1 s2 r0 r1 r2 r3 r4 p0 p1 p2 g0 g1 g2 f0 f1 f2;obtain⟨⟨q0,q1,q2,q3,q4,q5,q6⟩,⟨s0,s1,s2⟩,⟨r0,r1,r2,r3,r4⟩,⟨p0,p1,p2⟩,⟨g0,g1,g2⟩,⟨f0,f1,f2⟩,hB⟩:=HX3.out
  go_upto_region 10 with fail;have Z:=Zab (show(w3.cell? (Ad w.heap.size 5)=some (.slice (some (Ad ba oa)) al.length ca)∧w3.cell? (Ad w.heap.size 6)=some (.slice (some (Ad bz oz)) zl.length cz)∧w3.cell? (Ad (w.heap.size+1) 0)=some (Vi x2))∧(w3.cell? (Ad (w.heap.size+1+1) 0)=some (Vi k)∧w3.cell? (Ad (w.heap.size+1+1) 1)=some (Vi p)∧w3.cell? (Ad (w.heap.size+1+1) 2)=some (Vi v)∧w3.cell? (Ad (w.heap.size+1+1) 3)=some (Vi n)∧w3.cell? (Ad (w.heap.size+1+1) 4)=some (Vi q))∧Below w.heap.size w w3 from⟨⟨q5,q6,s0⟩,⟨r0,r1,r2,r3,r4⟩,hB⟩);clear hB
  go_region_held3 (fun u=>(u.cell? (Ad w.heap.size 5)=some (.slice (some (Ad ba oa)) al.length ca)∧u.cell? (Ad w.heap.size 6)=some (.slice (some (Ad bz oz)) zl.length cz)∧u.cell? (Ad (w.heap.size+1) 0)=some (Vi x2))∧(u.cell? (Ad (w.heap.size+1+1) 0)=some (Vi k)∧u.cell? (Ad (w.heap.size+1+1) 1)=some (Vi p)∧u.cell? (Ad (w.heap.size+1+1) 2)=some (Vi v)∧u.cell? (Ad (w.heap.size+1+1) 3)=some (Vi n)∧u.cell? (Ad (w.heap.size+1+1) 4)=some (Vi q))∧Below w.heap.size w u)
   (first
    |(with_reducible assumption)
    |(with_reducible apply keepSP;with_reducible assumption;with_reducible assumption)
    |(with_reducible refine keepSP (Below.refl _ _).drew ?_;exact Z.out))
   (first
    |(go_at_call 144;refine(hlk _ ?_).mono ?_;(with_reducible assumption);rintro e w4 ⟨rfl,hb4⟩;have HX3:=Zab (HX3.out.later (Below.trans (Below.refl _ _).drew hb4)))
    |(go_at_call 143;refine Sb (hpl _) fun w5 hb5=>?_;have HX3:=Zab (HX3.out.later hb5)))
  clear Z q0 q1 q2 q3 q4 q5 q6 s0 s1 s2 r0 r1 r2 r3 r4 p0 p1 p2 g0 g1 g2 f0 f1 f2 hlk hpl;obtain⟨⟨q0,q1,q2,q3,q4,q5,q6⟩,⟨s0,s1,s2⟩,⟨r0,r1,r2,r3,r4⟩,⟨p0,p1,p2⟩,⟨g0,g1,g2⟩,⟨f0,f1,f2⟩,hB⟩:=HX3.out;clear hB
  first
   |(have hz:(n != W)=false:=hne;clear hz;go_upto_region 13 with fail;have HX4:=HX3;clear HX3;obtain⟨⟨q0,q1,q2,q3,q4,q5,q6⟩,⟨s0,s1,s2⟩,⟨r0,r1,r2,r3,r4⟩,⟨p0,p1,p2⟩,⟨g0,g1,g2⟩,⟨f0,f1,f2⟩,hB⟩:=HX4.out;rename World=>w6)
   |(go_upto_region 13 with(go_at_call 94;refine Sm (hm1 _) ?_);have HX4:=Zab (HX3.out.setD y);clear HX3;generalize hw5:World.setCell _ _ (Vi y)=w6 at *;clear hw5;clear q0 q1 q2 q3 q4 q5 q6 s0 s1 s2 r0 r1 r2 r3 r4 p0 p1 p2 g0 g1 g2 f0 f1 f2;obtain⟨⟨q0,q1,q2,q3,q4,q5,q6⟩,⟨s0,s1,s2⟩,⟨r0,r1,r2,r3,r4⟩,⟨p0,p1,p2⟩,⟨g0,g1,g2⟩,⟨f0,f1,f2⟩,hB⟩:=HX4.out)
  have Z:=Zab (show(w6.cell? (Ad w.heap.size 0)=some (Vi L)∧w6.cell? (Ad w.heap.size 1)=some (Vi H)∧w6.cell? (Ad w.heap.size 2)=some (Vi U)∧w6.cell? (Ad w.heap.size 3)=some (Vi B)∧w6.cell? (Ad w.heap.size 4)=some (Vi M)∧w6.cell? (Ad w.heap.size 5)=some (.slice (some (Ad ba oa)) al.length ca)∧w6.cell? (Ad w.heap.size 6)=some (.slice (some (Ad bz oz)) zl.length cz))∧(w6.cell? (Ad (w.heap.size+1) 0)=some (Vi x2)∧w6.cell? (Ad (w.heap.size+1) 1)=some (Vi y)∧w6.cell? (Ad (w.heap.size+1) 2)=some (Vi n))∧Below w.heap.size w w6 from⟨⟨q0,q1,q2,q3,q4,q5,q6⟩,⟨s0,s1,s2⟩,hB⟩);clear hB q0 q1 q2 q3 q4 q5 q6 s0 s1 s2 r0 r1 r2 r3 r4 g0 g1 g2
  go_region_held3 (fun u=>(u.cell? (Ad w.heap.size 0)=some (Vi L)∧u.cell? (Ad w.heap.size 1)=some (Vi H)∧u.cell? (Ad w.heap.size 2)=some (Vi U)∧u.cell? (Ad w.heap.size 3)=some (Vi B)∧u.cell? (Ad w.heap.size 4)=some (Vi M)∧u.cell? (Ad w.heap.size 5)=some (.slice (some (Ad ba oa)) al.length ca)∧u.cell? (Ad w.heap.size 6)=some (.slice (some (Ad bz oz)) zl.length cz))∧(u.cell? (Ad (w.heap.size+1) 0)=some (Vi x2)∧u.cell? (Ad (w.heap.size+1) 1)=some (Vi y)∧u.cell? (Ad (w.heap.size+1) 2)=some (Vi n))∧Below w.heap.size w u)
   (first
    |(with_reducible assumption)
    |(with_reducible apply keepSE;with_reducible assumption;with_reducible assumption)
    |((repeat (with_reducible first|exact Z.out|assumption|refine keepSE (Below.refl _ _).drew ?_|refine keepSEs ?_));done))
   (first
    |(go_at_call 94;refine Sm (hm2 _) ?_))
  all_goals
   rename_i hH
   have HB:=Zab hH.2.2;clear hH;go_wp2_with fail;refine bodyPost_ret (v:=.tuple #[Vi wt,.agg #[Vi x2,Vi y,Vi n]]) ?_ rfl ⟨rfl,HB.out⟩
   simp[results,results96,go_sem,p0,p1,p2]
theorem refWanted_any(L H U B M:Int)(a z:Option Addr)(ca cz:Nat)(al zl:List Int)(A D W k p v n q:Int)(h0:hoE L H U B M al zl A D W k n q=0)(w:World)(ha:Lst w a al)(hz:Lst w z zl):
 Calls prog 96 #[.agg #[Vi L,Vi H,Vi U,Vi B,Vi M,.slice a al.length ca,.slice z zl.length cz],.agg #[Vi A,Vi D,Vi W],.agg #[Vi k,Vi p,Vi v,Vi n,Vi q]] w fun e w'=>e=.returned (.tuple #[Vi (wX L H U M al zl A D W k p v n q),.agg #[Vi (wA L H U A W k p n),Vi (wD L H U M al zl A D W k p v n q),Vi n]])∧Below w.heap.size w w':=by
 obtain⟨e1,e2,e3⟩:=Zec h0;obtain⟨e4,e5,e6,_⟩:=Zda e1;obtain⟨_,_,_,_,m0,m1⟩:=Zdb e4;obtain⟨⟨k0,k1⟩,⟨n0,n3'⟩,_,_⟩:=asB_true e3
 by_cases n1:n≤1
 · have:=wanted_hold L H U B M a z ca cz al zl A D W k p v n q h0 n1 w ha hz
   unfold wX wA wD;rw[if_pos n1,if_pos n1,if_pos n1];exact this
 · unfold wX wA wD;rw[if_neg n1,if_neg n1,if_neg n1]
   have HX:=Zab (HW.new w L H U B M a z al.length zl.length ca cz A D n k p v n q);have hhu:=refHun_any k M k0 k1 (by omega) (by omega);clear h0 e1 e2 e3 e4 e6 ha hz
   by_cases n2:n=2
   · rw[if_pos n2];subst n2;generalize hunI k M=hu at*
     go_enter func96,ntmps96
     go_upto_region 4 with fail;generalize hw2:World.alloc (World.alloc (World.alloc (World.alloc _ _) _) _) _=w2 at *;clear hw2;obtain⟨⟨q0,q1,q2,q3,q4,q5,q6⟩,⟨s0,s1,s2⟩,⟨r0,r1,r2,r3,r4⟩,⟨p0,p1,p2⟩,⟨g0,g1,g2⟩,⟨f0,f1,f2⟩,hB⟩:=HX.out;have Z:=Zab (show(w2.cell? (Ad w.heap.size 4)=some (Vi M)∧w2.cell? (Ad (w.heap.size+1+1) 0)=some (Vi k))∧(w2.cell? (Ad (w.heap.size+1) 0)=some (Vi A)∧w2.cell? (Ad (w.heap.size+1) 1)=some (Vi D)∧w2.cell? (Ad (w.heap.size+1) 2)=some (Vi 2))∧Below w.heap.size w w2 from⟨⟨q4,r0⟩,⟨s0,s1,s2⟩,hB⟩);clear hB q0 q1 q2 q3 q4 q5 q6 s0 s1 s2 r0 r1 r2 r3 r4 g0 g1 g2
     go_region_held3 (fun u=>(u.cell? (Ad w.heap.size 4)=some (Vi M)∧u.cell? (Ad (w.heap.size+1+1) 0)=some (Vi k))∧(u.cell? (Ad (w.heap.size+1) 0)=some (Vi A)∧u.cell? (Ad (w.heap.size+1) 1)=some (Vi D)∧u.cell? (Ad (w.heap.size+1) 2)=some (Vi 2))∧Below w.heap.size w u)
      (first
       |(with_reducible assumption)
       |(with_reducible apply keepS2;with_reducible assumption;with_reducible assumption)
       |((repeat (with_reducible first|exact Z.out|assumption|refine keepS2 (Below.refl _ _).drew ?_|refine keepS2s ?_));done))
      (first
       |(go_at_call 142;refine Sm (hhu _) ?_))
     all_goals
      rename_i hH
      have HB:=Zab hH.2.2;clear hH;go_wp2_with fail;refine bodyPost_ret (v:=.tuple #[Vi hu,.agg #[Vi A,Vi D,Vi 2]]) ?_ rfl ⟨rfl,HB.out⟩
      simp[results,results96,go_sem,p0,p1,p2]
   · rw[if_neg n2]
     obtain rfl:n=3:=by omega
     clear n1 n2 n0 n3' hhu
     go_enter func96,ntmps96
     go_upto_region 6 with fail;generalize hw2:World.alloc (World.alloc (World.alloc (World.alloc _ _) _) _) _=w2 at *;clear hw2;obtain⟨⟨q0,q1,q2,q3,q4,q5,q6⟩,⟨s0,s1,s2⟩,⟨r0,r1,r2,r3,r4⟩,⟨p0,p1,p2⟩,⟨g0,g1,g2⟩,⟨f0,f1,f2⟩,hB⟩:=HX.out;have Z:=Zab (show(w2.cell? (Ad w.heap.size 4)=some (Vi M)∧w2.cell? (Ad (w.heap.size+1+1) 0)=some (Vi k))∧(w2.cell? (Ad (w.heap.size+1) 0)=some (Vi A)∧w2.cell? (Ad (w.heap.size+1) 1)=some (Vi D)∧w2.cell? (Ad (w.heap.size+1) 2)=some (Vi 3))∧Below w.heap.size w w2 from⟨⟨q4,r0⟩,⟨s0,s1,s2⟩,hB⟩);clear hB q0 q1 q2 q3 q4 q5 q6 s0 s1 s2 r0 r1 r2 r3 r4 g0 g1 g2
     go_region_held3 (fun u=>(u.cell? (Ad w.heap.size 4)=some (Vi M)∧u.cell? (Ad (w.heap.size+1+1) 0)=some (Vi k))∧(u.cell? (Ad (w.heap.size+1) 0)=some (Vi A)∧u.cell? (Ad (w.heap.size+1) 1)=some (Vi D)∧u.cell? (Ad (w.heap.size+1) 2)=some (Vi 3))∧Below w.heap.size w u)
      (first
       |(with_reducible assumption)
       |(with_reducible apply keepS2;with_reducible assumption;with_reducible assumption)
       |((repeat (with_reducible first|exact Z.out|assumption|refine keepS2 (Below.refl _ _).drew ?_|refine keepS2s ?_));done))
      (fail)
     all_goals
      rename_i hH
      have HB:=Zab hH.2.2;clear hH;go_wp2_with fail;refine bodyPost_ret (v:=.tuple #[Vi 0,.agg #[Vi A,Vi D,Vi 3]]) ?_ rfl ⟨rfl,HB.out⟩
      simp[results,results96,go_sem,p0,p1,p2]
theorem clipMove_ex(L H U B M:Int)(a z:Option Addr)(al zl ca cz:Nat)(x:Int)(m0:1≤M)(m1:M≤4000)(w:World):
 Calls prog 224 #[.agg #[Vi L,Vi H,Vi U,Vi B,Vi M,.slice a al ca,.slice z zl cz],Vi x] w fun e w'=>e=.returned (Vi (Zal x (-M) M))∧w'=w.alloc (.cells #[Vi L,Vi H,Vi U,Vi B,Vi M,.slice a al ca,.slice z zl cz] 107):=by
 have c1:=Zay x (-M) M;generalize Zal x (-M) M=m at*
 go_enter func224,ntmps224
 go_wp2_with (go_at_call 172;refine Sm (c1 _) ?_);go_ret;exact⟨rfl,rfl⟩
theorem holdPull_ex(aim p g:Int)(a0:-100000≤aim)(a1:aim≤100000)(w:World):
 Calls prog 225 #[Vi aim,Vi p,Vi g] w fun e w'=>e=.returned (Vi (Zfq g aim p))∧w'=w.drew:=by
 have c1:=Zay p (-2000000) 2000000;have b1:=Zch p (lo:=-2000000) (hi:=2000000) (by omega);have c2:=Zay (aim-Zal p (-2000000) 2000000) (-1000000) 1000000;have c3:=fixMul_any g (Zal (aim-Zal p (-2000000) 2000000) (-1000000) 1000000);obtain⟨b2,b3⟩:=b1
 unfold Zfq
 generalize mulI g (Zal (aim-Zal p (-2000000) 2000000) (-1000000) 1000000)=m at *;generalize Zal (aim-Zal p (-2000000) 2000000) (-1000000) 1000000=y at *;generalize Zal p (-2000000) 2000000=x at*
 go_enter func225,ntmps225
 go_wp2_with (first
  |((first|go_at_call_of 172 (Vi p)|go_at_call_of 172 (Value.int .i64 p));refine Sm (c1 _) ?_)
  |((first|go_at_call_of 172 (Vi (aim-x))|go_at_call_of 172 (Value.int .i64 (aim-x)));refine Sm (c2 _) ?_)
  |(go_at_call 85;refine Sm (c3 _) ?_))
 go_ret;exact⟨rfl,rfl⟩
theorem refPull_ex(g aim k p v n q:Int)(a0:-100000≤aim)(a1:aim≤100000)(w:World):
 Calls prog 143 #[Vi g,Vi aim,.agg #[Vi k,Vi p,Vi v,Vi n,Vi q]] w fun e w'=>e=.returned (Vi (Zfq g aim p))∧w'=w.alloc (.cells #[Vi k,Vi p,Vi v,Vi n,Vi q] 110):=by
 have c1:=Zax p (-2000000) 2000000 (by omega);have b1:=Zch p (lo:=-2000000) (hi:=2000000) (by omega);have c2:=Zax (aim-Zal p (-2000000) 2000000) (-1000000) 1000000 (by omega);have c3:=refMul_any g (Zal (aim-Zal p (-2000000) 2000000) (-1000000) 1000000);obtain⟨b2,b3⟩:=b1
 unfold Zfq
 generalize mulI g (Zal (aim-Zal p (-2000000) 2000000) (-1000000) 1000000)=m at *;generalize Zal (aim-Zal p (-2000000) 2000000) (-1000000) 1000000=y at *;generalize Zal p (-2000000) 2000000=x at*
 go_enter func143,ntmps143
 go_wp2_with (first
  |((first|go_at_call_of 94 (Vi p)|go_at_call_of 94 (Value.int .i64 p));refine Sm (c1 _) ?_)
  |((first|go_at_call_of 94 (Vi (aim-x))|go_at_call_of 94 (Value.int .i64 (aim-x)));refine Sm (c2 _) ?_)
  |(go_at_call 198;refine Sm (c3 _) ?_))
 go_ret;exact⟨rfl,rfl⟩
theorem Zbw{w u u':World}{B M A k p v n q:Int}(hb:Below u.heap.size u u')(h:(u.cell? (Ad w.heap.size 3)=some (Vi B)∧u.cell? (Ad w.heap.size 4)=some (Vi M)∧u.cell? (Ad (w.heap.size+1) 0)=some (Vi A))∧(u.cell? (Ad (w.heap.size+1+1) 0)=some (Vi k)∧u.cell? (Ad (w.heap.size+1+1) 1)=some (Vi p)∧u.cell? (Ad (w.heap.size+1+1) 2)=some (Vi v)∧u.cell? (Ad (w.heap.size+1+1) 3)=some (Vi n)∧u.cell? (Ad (w.heap.size+1+1) 4)=some (Vi q))∧Below w.heap.size w u):(u'.cell? (Ad w.heap.size 3)=some (Vi B)∧u'.cell? (Ad w.heap.size 4)=some (Vi M)∧u'.cell? (Ad (w.heap.size+1) 0)=some (Vi A))∧(u'.cell? (Ad (w.heap.size+1+1) 0)=some (Vi k)∧u'.cell? (Ad (w.heap.size+1+1) 1)=some (Vi p)∧u'.cell? (Ad (w.heap.size+1+1) 2)=some (Vi v)∧u'.cell? (Ad (w.heap.size+1+1) 3)=some (Vi n)∧u'.cell? (Ad (w.heap.size+1+1) 4)=some (Vi q))∧Below w.heap.size w u':=
 ⟨⟨Zaf hb h.1.1,Zaf hb h.1.2.1,Zaf hb h.1.2.2⟩,⟨Zaf hb h.2.1.1,Zaf hb h.2.1.2.1,Zaf hb h.2.1.2.2.1,Zaf hb h.2.1.2.2.2.1,Zaf hb h.2.1.2.2.2.2⟩,Zac h.2.2 hb⟩
theorem Zfy{w u:World}{B M A k p v n q:Int}{x:Value}(h:(u.cell? (Ad w.heap.size 3)=some (Vi B)∧u.cell? (Ad w.heap.size 4)=some (Vi M)∧u.cell? (Ad (w.heap.size+1) 0)=some (Vi A))∧(u.cell? (Ad (w.heap.size+1+1) 0)=some (Vi k)∧u.cell? (Ad (w.heap.size+1+1) 1)=some (Vi p)∧u.cell? (Ad (w.heap.size+1+1) 2)=some (Vi v)∧u.cell? (Ad (w.heap.size+1+1) 3)=some (Vi n)∧u.cell? (Ad (w.heap.size+1+1) 4)=some (Vi q))∧Below w.heap.size w u):((u.setCell (Ad (w.heap.size+1) 1) x).cell? (Ad w.heap.size 3)=some (Vi B)∧(u.setCell (Ad (w.heap.size+1) 1) x).cell? (Ad w.heap.size 4)=some (Vi M)∧(u.setCell (Ad (w.heap.size+1) 1) x).cell? (Ad (w.heap.size+1) 0)=some (Vi A))∧((u.setCell (Ad (w.heap.size+1) 1) x).cell? (Ad (w.heap.size+1+1) 0)=some (Vi k)∧(u.setCell (Ad (w.heap.size+1) 1) x).cell? (Ad (w.heap.size+1+1) 1)=some (Vi p)∧(u.setCell (Ad (w.heap.size+1) 1) x).cell? (Ad (w.heap.size+1+1) 2)=some (Vi v)∧(u.setCell (Ad (w.heap.size+1) 1) x).cell? (Ad (w.heap.size+1+1) 3)=some (Vi n)∧(u.setCell (Ad (w.heap.size+1) 1) x).cell? (Ad (w.heap.size+1+1) 4)=some (Vi q))∧Below w.heap.size w (u.setCell (Ad (w.heap.size+1) 1) x):=by
 have n0:w.heap.size+1≠w.heap.size:=by omega
 have n2:w.heap.size+1≠w.heap.size+1+1:=by omega
 exact⟨⟨Zah n0 h.1.1,Zah n0 h.1.2.1,Zcg (by decide) h.1.2.2⟩,⟨Zah n2 h.2.1.1,Zah n2 h.2.1.2.1,Zah n2 h.2.1.2.2.1,Zah n2 h.2.1.2.2.2.1,Zah n2 h.2.1.2.2.2.2⟩,h.2.2.setCell (by simp) _⟩
theorem Zbx{w u u':World}{L H U B M:Int}{a z:Option Addr}{la lz ca cz:Nat}{A p:Int}(hb:Below u.heap.size u u')(h:(u.cell? (Ad w.heap.size 0)=some (Vi L)∧u.cell? (Ad w.heap.size 1)=some (Vi H)∧u.cell? (Ad w.heap.size 2)=some (Vi U)∧u.cell? (Ad w.heap.size 3)=some (Vi B)∧u.cell? (Ad w.heap.size 4)=some (Vi M)∧u.cell? (Ad w.heap.size 5)=some (.slice a la ca)∧u.cell? (Ad w.heap.size 6)=some (.slice z lz cz))∧(u.cell? (Ad (w.heap.size+1) 0)=some (Vi A)∧u.cell? (Ad (w.heap.size+1+1) 1)=some (Vi p))∧Below w.heap.size w u):(u'.cell? (Ad w.heap.size 0)=some (Vi L)∧u'.cell? (Ad w.heap.size 1)=some (Vi H)∧u'.cell? (Ad w.heap.size 2)=some (Vi U)∧u'.cell? (Ad w.heap.size 3)=some (Vi B)∧u'.cell? (Ad w.heap.size 4)=some (Vi M)∧u'.cell? (Ad w.heap.size 5)=some (.slice a la ca)∧u'.cell? (Ad w.heap.size 6)=some (.slice z lz cz))∧(u'.cell? (Ad (w.heap.size+1) 0)=some (Vi A)∧u'.cell? (Ad (w.heap.size+1+1) 1)=some (Vi p))∧Below w.heap.size w u':=
 ⟨⟨Zaf hb h.1.1,Zaf hb h.1.2.1,Zaf hb h.1.2.2.1,Zaf hb h.1.2.2.2.1,Zaf hb h.1.2.2.2.2.1,Zaf hb h.1.2.2.2.2.2.1,Zaf hb h.1.2.2.2.2.2.2⟩,⟨Zaf hb h.2.1.1,Zaf hb h.2.1.2⟩,Zac h.2.2 hb⟩
theorem Zfz{w u:World}{L H U B M:Int}{a z:Option Addr}{la lz ca cz:Nat}{A p:Int}{x:Value}(h:(u.cell? (Ad w.heap.size 0)=some (Vi L)∧u.cell? (Ad w.heap.size 1)=some (Vi H)∧u.cell? (Ad w.heap.size 2)=some (Vi U)∧u.cell? (Ad w.heap.size 3)=some (Vi B)∧u.cell? (Ad w.heap.size 4)=some (Vi M)∧u.cell? (Ad w.heap.size 5)=some (.slice a la ca)∧u.cell? (Ad w.heap.size 6)=some (.slice z lz cz))∧(u.cell? (Ad (w.heap.size+1) 0)=some (Vi A)∧u.cell? (Ad (w.heap.size+1+1) 1)=some (Vi p))∧Below w.heap.size w u):((u.setCell (Ad (w.heap.size+1) 1) x).cell? (Ad w.heap.size 0)=some (Vi L)∧(u.setCell (Ad (w.heap.size+1) 1) x).cell? (Ad w.heap.size 1)=some (Vi H)∧(u.setCell (Ad (w.heap.size+1) 1) x).cell? (Ad w.heap.size 2)=some (Vi U)∧(u.setCell (Ad (w.heap.size+1) 1) x).cell? (Ad w.heap.size 3)=some (Vi B)∧(u.setCell (Ad (w.heap.size+1) 1) x).cell? (Ad w.heap.size 4)=some (Vi M)∧(u.setCell (Ad (w.heap.size+1) 1) x).cell? (Ad w.heap.size 5)=some (.slice a la ca)∧(u.setCell (Ad (w.heap.size+1) 1) x).cell? (Ad w.heap.size 6)=some (.slice z lz cz))∧((u.setCell (Ad (w.heap.size+1) 1) x).cell? (Ad (w.heap.size+1) 0)=some (Vi A)∧(u.setCell (Ad (w.heap.size+1) 1) x).cell? (Ad (w.heap.size+1+1) 1)=some (Vi p))∧Below w.heap.size w (u.setCell (Ad (w.heap.size+1) 1) x):=by
 have n0:w.heap.size+1≠w.heap.size:=by omega
 have n2:w.heap.size+1≠w.heap.size+1+1:=by omega
 exact⟨⟨Zah n0 h.1.1,Zah n0 h.1.2.1,Zah n0 h.1.2.2.1,Zah n0 h.1.2.2.2.1,Zah n0 h.1.2.2.2.2.1,Zah n0 h.1.2.2.2.2.2.1,Zah n0 h.1.2.2.2.2.2.2⟩,⟨Zcg (by decide) h.2.1.1,Zah n2 h.2.1.2⟩,h.2.2.setCell (by simp) _⟩
theorem refTold_any(L H U B M:Int)(a z:Option Addr)(la lz ca cz:Nat)(A D W k p v n q want got:Int)(a0:-100000≤A)(a1:A≤100000)(m0:1≤M)(m1:M≤4000)(d0:-M≤D)(d1:D≤M)(w:World):
 Calls prog 99 #[.agg #[Vi L,Vi H,Vi U,Vi B,Vi M,.slice a la ca,.slice z lz cz],.agg #[Vi A,Vi D,Vi W],.agg #[Vi k,Vi p,Vi v,Vi n,Vi q],Vi want,Vi got] w fun e w'=>e=.returned (.agg #[Vi A,Vi (toD B M A D p n want got),Vi W])∧Below w.heap.size w w':=by
 have HX:=Zab (HW.new w L H U B M a z la lz ca cz A D W k p v n q)
 unfold toD
 by_cases hg:want=got
 · by_cases hn:n=0
   · rw[if_pos ⟨hn,hg.symm⟩]
     have hg':(want==got)=true:=by simpa using hg
     have hn':(n==0)=true:=by simpa using hn
     clear hg hn;have hpl:=refPull_ex B A k p v n q a0 a1;have ppb:=Zhi B A p;generalize Zfq B A p=pp at *;obtain⟨pp0,pp1⟩:=ppb;have hm2:=Zax (D+pp) (-M) M (by omega);generalize Zal (D+pp) (-M) M=y at *;have v2:=Wr (D+pp);have v3:=Wr (-M)
     go_enter func99,ntmps99
     go_upto_region 2 with fail;generalize hw2:World.alloc (World.alloc (World.alloc (World.alloc _ _) _) _) _=w2 at *;clear hw2;obtain⟨⟨q0,q1,q2,q3,q4,q5,q6⟩,⟨s0,s1,s2⟩,⟨r0,r1,r2,r3,r4⟩,⟨p0,p1,p2⟩,⟨g0,g1,g2⟩,⟨f0,f1,f2⟩,hB⟩:=HX.out;have Z:=Zab (show(w2.cell? (Ad w.heap.size 3)=some (Vi B)∧w2.cell? (Ad w.heap.size 4)=some (Vi M)∧w2.cell? (Ad (w.heap.size+1) 0)=some (Vi A))∧(w2.cell? (Ad (w.heap.size+1+1) 0)=some (Vi k)∧w2.cell? (Ad (w.heap.size+1+1) 1)=some (Vi p)∧w2.cell? (Ad (w.heap.size+1+1) 2)=some (Vi v)∧w2.cell? (Ad (w.heap.size+1+1) 3)=some (Vi n)∧w2.cell? (Ad (w.heap.size+1+1) 4)=some (Vi q))∧Below w.heap.size w w2 from⟨⟨q3,q4,s0⟩,⟨r0,r1,r2,r3,r4⟩,hB⟩);have x1:=Zaf (Zaa w2 (.cells #[Vi k,Vi p,Vi v,Vi n,Vi q] 110)) s1;have x2:=Zck (Zaa w2 (.cells #[Vi k,Vi p,Vi v,Vi n,Vi q] 110)) s1 g1;clear hB;apply htwice
     · intro hk;refine wp_region_held_drew (S:=fun u=>(u.cell? (Ad w.heap.size 3)=some (Vi B)∧u.cell? (Ad w.heap.size 4)=some (Vi M)∧u.cell? (Ad (w.heap.size+1) 0)=some (Vi A))∧(u.cell? (Ad (w.heap.size+1+1) 0)=some (Vi k)∧u.cell? (Ad (w.heap.size+1+1) 1)=some (Vi p)∧u.cell? (Ad (w.heap.size+1+1) 2)=some (Vi v)∧u.cell? (Ad (w.heap.size+1+1) 3)=some (Vi n)∧u.cell? (Ad (w.heap.size+1+1) 4)=some (Vi q))∧Below w.heap.size w u) (by kernel_rfl) (by first|exact Zbw (Below.refl _ _).drew Z.out|(repeat (with_reducible first|exact Z.out|refine Zbw (Below.refl _ _).drew ?_|refine Zbw (Zaa _ _) ?_|refine Zfy ?_))) (fun hHeld=>?_);refine Tp 0 (by assumption) ?_;(try simp only[Act.put]);refine Tp 2 (by assumption) ?_;(try simp only[Act.put]);refine Tp 3 (by assumption) ?_;(try simp only[Act.put]);refine Tp 4 (by assumption) ?_;(try simp only[Act.put]);refine Tp 5 (by assumption) ?_;(try simp only[Act.put]);refine Tp 6 (by assumption) ?_;(try simp only[Act.put]);refine Tp 9 (by assumption) ?_;(try simp only[Act.put]);refine Tp 10 (by assumption) ?_;(try simp only[Act.put]);refine Tp 11 (by assumption) ?_;(try simp only[Act.put]);refine Tp 12 (by assumption) ?_;(try simp only[Act.put]);refine Tp 13 (by assumption) ?_;(try simp only[Act.put]);refine Rb 1 7 (fun K hK=>?_) (fun K hK=>?_)
       · go_simp;refine hK.out _ _ (by first|exact Zbw (Below.refl _ _).drew Z.out|(repeat (with_reducible first|exact Z.out|refine Zbw (Below.refl _ _).drew ?_|refine Zbw (Zaa _ _) ?_|refine Zfy ?_))) (fun hHeld=>?_);clear hK K;(try simp only[Act.put]);refine Ra 7 (fun K hK=>?_);go_simp;refine Sm (hpl _) ?_;go_wp2_with fail;refine hK.out _ _ (by first|exact Zbw (Below.refl _ _).drew Z.out|(repeat (with_reducible first|exact Z.out|refine Zbw (Below.refl _ _).drew ?_|refine Zbw (Zaa _ _) ?_|refine Zfy ?_))) (fun hHeld=>?_);clear hK K;(try simp only[Act.put]);refine Tp 8 (by assumption) ?_;(try simp only[Act.put]);refine Ra 14 (fun K hK=>?_);go_simp;refine Sm (hm2 _) ?_;go_wp2_with fail;refine hK.out _ _ (by first|exact Zbw (Below.refl _ _).drew Z.out|(repeat (with_reducible first|exact Z.out|refine Zbw (Below.refl _ _).drew ?_|refine Zbw (Zaa _ _) ?_|refine Zfy ?_))) (fun hHeld=>?_);clear hK K;(try simp only[Act.put]);refine Tp 15 (by assumption) ?_;(try simp only[Act.put]);refine Ra 16 (fun K hK=>?_);go_simp;refine hK.out _ _ (by first|exact Zbw (Below.refl _ _).drew Z.out|(repeat (with_reducible first|exact Z.out|refine Zbw (Below.refl _ _).drew ?_|refine Zbw (Zaa _ _) ?_|refine Zfy ?_))) (fun hHeld=>?_);clear hK K;(try simp only[Act.put]);refine wpAnyH_done (by kernel_rfl) ?_ _;exact hk
       · go_simp;refine Sm (hpl _) ?_;go_wp2_with fail;refine hK.out _ _ (by first|exact Zbw (Below.refl _ _).drew Z.out|(repeat (with_reducible first|exact Z.out|refine Zbw (Below.refl _ _).drew ?_|refine Zbw (Zaa _ _) ?_|refine Zfy ?_))) (fun hHeld=>?_);clear hK K;(try simp only[Act.put]);refine Ra 1 (fun K hK=>?_);go_simp;refine hK.out _ _ (by first|exact Zbw (Below.refl _ _).drew Z.out|(repeat (with_reducible first|exact Z.out|refine Zbw (Below.refl _ _).drew ?_|refine Zbw (Zaa _ _) ?_|refine Zfy ?_))) (fun hHeld=>?_);clear hK K;(try simp only[Act.put]);refine Tp 8 (by assumption) ?_;(try simp only[Act.put]);refine Ra 14 (fun K hK=>?_);go_simp;refine Sm (hm2 _) ?_;go_wp2_with fail;refine hK.out _ _ (by first|exact Zbw (Below.refl _ _).drew Z.out|(repeat (with_reducible first|exact Z.out|refine Zbw (Below.refl _ _).drew ?_|refine Zbw (Zaa _ _) ?_|refine Zfy ?_))) (fun hHeld=>?_);clear hK K;(try simp only[Act.put]);refine Tp 15 (by assumption) ?_;(try simp only[Act.put]);refine Ra 16 (fun K hK=>?_);go_simp;refine hK.out _ _ (by first|exact Zbw (Below.refl _ _).drew Z.out|(repeat (with_reducible first|exact Z.out|refine Zbw (Below.refl _ _).drew ?_|refine Zbw (Zaa _ _) ?_|refine Zfy ?_))) (fun hHeld=>?_);clear hK K;(try simp only[Act.put]);refine wpAnyH_done (by kernel_rfl) ?_ _;exact hk
     have HX3:=Zab (((HX.out.later (Zaa _ (.cells #[Vi k,Vi p,Vi v,Vi n,Vi q] 110))).setD y).later (Below.refl _ _).drew);generalize hw3:World.drew (World.setCell _ _ (Vi y))=w3 at *;clear hw3 HX Z q0 q1 q2 q3 q4 q5 q6 s0 s1 s2 r0 r1 r2 r3 r4 p0 p1 p2 g0 g1 g2 f0 f1 f2 x1 x2;obtain⟨⟨q0,q1,q2,q3,q4,q5,q6⟩,⟨s0,s1,s2⟩,⟨r0,r1,r2,r3,r4⟩,⟨p0,p1,p2⟩,⟨g0,g1,g2⟩,⟨f0,f1,f2⟩,hB⟩:=HX3.out;go_wp2_with fail;refine bodyPost_ret (v:=.agg #[Vi A,Vi y,Vi W]) ?_ rfl ⟨rfl,((hB.setCell (by simp;omega) _).setCell (by simp;omega) _).setCell (by simp;omega) _⟩
     simp[results,results99,go_sem,p0,p1,p2]
   · rw[if_neg (fun h=>hn h.1)]
     have hg':(want==got)=true:=by simpa using hg
     have hn':(n==0)=false:=by simpa using hn
     clear hg hn
     go_enter func99,ntmps99
     go_wp2_with fail;exact bodyPost_ret (v:=.agg #[Vi A,Vi D,Vi W]) (by simp[results,results99,go_sem]) rfl ⟨rfl,by repeat (first|exact Zaa _ _|refine Zac ?_ (Zaa _ _))⟩
 · rw[if_neg (fun h=>hg h.2.symm)]
   have hg':(want==got)=false:=by simpa using hg
   clear hg
   go_enter func99,ntmps99
   go_wp2_with fail;exact bodyPost_ret (v:=.agg #[Vi A,Vi D,Vi W]) (by simp[results,results99,go_sem]) rfl ⟨rfl,by repeat (first|exact Zaa _ _|refine Zac ?_ (Zaa _ _))⟩
end Go.Proofs.YtnfdfiholcelaaaGreatDoor
