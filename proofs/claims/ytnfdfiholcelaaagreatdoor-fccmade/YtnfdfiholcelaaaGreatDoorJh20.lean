
import Derived.Test.YtnfdfiholcelaaaGreatDoorJh00
import Derived.Test.YtnfdfiholcelaaaGreatDoorJh15
import Derived.Test.YtnfdfiholcelaaaGreatDoorJh16
import Derived.Test.YtnfdfiholcelaaaGreatDoorJh17
import Derived.Test.YtnfdfiholcelaaaGreatDoorJh18
import Derived.Test.YtnfdfiholcelaaaGreatDoorJh19
set_option maxRecDepth 100000
set_option maxHeartbeats 20000000
namespace Go.Proofs.YtnfdfiholcelaaaGreatDoor
open Go.RowKit Plain Tryz
theorem told_ok(L H U B M:Int)(a z:Option Addr)(ca cz:Nat)(al zl:List Int)(A D W k p v n q:Int)(want got:Int)(hm:al.length≤9223372036854775807)(hn:zl.length≤9223372036854775807)(hca:al.length≤ca)(h0:hoE L H U B M al zl A D W k n q=0)(w:World)(ha:Lst w a al)(hz:Lst w z zl):
 Calls prog 173 #[.agg #[Vi L,Vi H,Vi U,Vi B,Vi M,.slice a al.length ca,.slice z zl.length cz],.agg #[Vi A,Vi D,Vi W],.agg #[Vi k,Vi p,Vi v,Vi n,Vi q],Vi want,Vi got] w fun e w'=>e=.returned (.tuple #[.agg #[Vi A,Vi (toD B M A D p n want got),Vi W],.nilIface])∧Below w.heap.size w w':=by
 have hck:=fun u (h:Below w.heap.size w u)=>Zhb L H U B M a z ca cz al zl A D W k p v n q hm hn hca u (ha.later h) (hz.later h);have HX:=Zab (HW.new w L H U B M a z al.length zl.length ca cz A D W k p v n q);simp only[h0,Zar] at hck;obtain⟨e1,e2,e3⟩:=Zec h0;obtain⟨e4,e5,e6,_⟩:=Zda e1;obtain⟨⟨l0,l1⟩,⟨u0,u1⟩,_,_,m0,m1⟩:=Zdb e4;obtain⟨⟨a0,a1⟩,⟨d0,d1⟩,_,_⟩:=Zhg e2;clear h0 e1 e2 e3 e4 e6 ha hz
 unfold toD
 by_cases hn:n=0
 · by_cases hg:got=want
   · rw[if_pos ⟨hn,hg⟩]
     have hg':(got==want)=true:=by simpa using hg
     have hn':(n==0)=true:=by simpa using hn
     clear hg hn;have hpl:=holdPull_ex A p B (by omega) (by omega);have ppb:=Zhi B A p;generalize Zfq B A p=pp at *;obtain⟨pp0,pp1⟩:=ppb;have hm2:=clipMove_ex L H U B M a z al.length zl.length ca cz (D+pp) m0 m1;generalize Zal (D+pp) (-M) M=y at *;have v2:=Wr (D+pp)
     go_enter func173,ntmps173
     go_upto_region 5 with(go_at_call 215;refine Sb (hck _ HX.out.2.2.2.2.2.2) fun w1 hb=>?_;have HX:=Zab (HX.out.later hb);obtain⟨⟨q0,q1,q2,q3,q4,q5,q6⟩,⟨s0,s1,s2⟩,⟨r0,r1,r2,r3,r4⟩,⟨p0,p1,p2⟩,⟨g0,g1,g2⟩,⟨f0,f1,f2⟩,hB⟩:=HX.out;clear hB hb);have hB:=HX.out.2.2.2.2.2.2;have Z:=Zab (show(w1.cell? (Ad w.heap.size 0)=some (Vi L)∧w1.cell? (Ad w.heap.size 1)=some (Vi H)∧w1.cell? (Ad w.heap.size 2)=some (Vi U)∧w1.cell? (Ad w.heap.size 3)=some (Vi B)∧w1.cell? (Ad w.heap.size 4)=some (Vi M)∧w1.cell? (Ad w.heap.size 5)=some (.slice a al.length ca)∧w1.cell? (Ad w.heap.size 6)=some (.slice z zl.length cz))∧(w1.cell? (Ad (w.heap.size+1) 0)=some (Vi A)∧w1.cell? (Ad (w.heap.size+1+1) 1)=some (Vi p))∧Below w.heap.size w w1 from⟨⟨q0,q1,q2,q3,q4,q5,q6⟩,⟨s0,r1⟩,hB⟩);have x1:=Zaf (Zaa w1 (.cells #[Vi L,Vi H,Vi U,Vi B,Vi M,.slice a al.length ca,.slice z zl.length cz] 107)) s1;have x2:=Zck (Zaa w1 (.cells #[Vi L,Vi H,Vi U,Vi B,Vi M,.slice a al.length ca,.slice z zl.length cz] 107)) s1 g1;clear hB;apply htwice
     · intro hk;refine wp_region_held_drew (S:=fun u=>(u.cell? (Ad w.heap.size 0)=some (Vi L)∧u.cell? (Ad w.heap.size 1)=some (Vi H)∧u.cell? (Ad w.heap.size 2)=some (Vi U)∧u.cell? (Ad w.heap.size 3)=some (Vi B)∧u.cell? (Ad w.heap.size 4)=some (Vi M)∧u.cell? (Ad w.heap.size 5)=some (.slice a al.length ca)∧u.cell? (Ad w.heap.size 6)=some (.slice z zl.length cz))∧(u.cell? (Ad (w.heap.size+1) 0)=some (Vi A)∧u.cell? (Ad (w.heap.size+1+1) 1)=some (Vi p))∧Below w.heap.size w u) (by kernel_rfl) (by first|exact Zbx (Below.refl _ _).drew Z.out|(repeat (with_reducible first|exact Z.out|refine Zbx (Below.refl _ _).drew ?_|refine Zbx (Zaa _ _) ?_|refine Zfz ?_))) (fun hHeld=>?_);refine Tp 0 (by assumption) ?_;(try simp only[Act.put]);refine Tp 1 (by assumption) ?_;(try simp only[Act.put]);refine Tp 3 (by assumption) ?_;(try simp only[Act.put]);refine Tp 4 (by assumption) ?_;(try simp only[Act.put]);refine Tp 5 (by assumption) ?_;(try simp only[Act.put]);refine Tp 6 (by assumption) ?_;(try simp only[Act.put]);refine Tp 7 (by assumption) ?_;(try simp only[Act.put]);refine Tp 8 (by assumption) ?_;(try simp only[Act.put]);refine Rb 2 9 (fun K hK=>?_) (fun K hK=>?_)
       · go_simp;refine hK.out _ _ (by first|exact Zbx (Below.refl _ _).drew Z.out|(repeat (with_reducible first|exact Z.out|refine Zbx (Below.refl _ _).drew ?_|refine Zbx (Zaa _ _) ?_|refine Zfz ?_))) (fun hHeld=>?_);clear hK K;(try simp only[Act.put]);refine Ra 9 (fun K hK=>?_);go_simp;refine Sm (hpl _) ?_;go_wp2_with fail;refine hK.out _ _ (by first|exact Zbx (Below.refl _ _).drew Z.out|(repeat (with_reducible first|exact Z.out|refine Zbx (Below.refl _ _).drew ?_|refine Zbx (Zaa _ _) ?_|refine Zfz ?_))) (fun hHeld=>?_);clear hK K;(try simp only[Act.put]);refine Tp 10 (by assumption) ?_;(try simp only[Act.put]);refine Ra 11 (fun K hK=>?_);go_simp;refine Sm (hm2 _) ?_;go_wp2_with fail;refine hK.out _ _ (by first|exact Zbx (Below.refl _ _).drew Z.out|(repeat (with_reducible first|exact Z.out|refine Zbx (Below.refl _ _).drew ?_|refine Zbx (Zaa _ _) ?_|refine Zfz ?_))) (fun hHeld=>?_);clear hK K;(try simp only[Act.put]);refine Tp 12 (by assumption) ?_;(try simp only[Act.put]);refine Ra 13 (fun K hK=>?_);go_simp;refine hK.out _ _ (by first|exact Zbx (Below.refl _ _).drew Z.out|(repeat (with_reducible first|exact Z.out|refine Zbx (Below.refl _ _).drew ?_|refine Zbx (Zaa _ _) ?_|refine Zfz ?_))) (fun hHeld=>?_);clear hK K;(try simp only[Act.put]);refine wpAnyH_done (by kernel_rfl) ?_ _;exact hk
       · go_simp;refine Sm (hpl _) ?_;go_wp2_with fail;refine hK.out _ _ (by first|exact Zbx (Below.refl _ _).drew Z.out|(repeat (with_reducible first|exact Z.out|refine Zbx (Below.refl _ _).drew ?_|refine Zbx (Zaa _ _) ?_|refine Zfz ?_))) (fun hHeld=>?_);clear hK K;(try simp only[Act.put]);refine Ra 2 (fun K hK=>?_);go_simp;refine hK.out _ _ (by first|exact Zbx (Below.refl _ _).drew Z.out|(repeat (with_reducible first|exact Z.out|refine Zbx (Below.refl _ _).drew ?_|refine Zbx (Zaa _ _) ?_|refine Zfz ?_))) (fun hHeld=>?_);clear hK K;(try simp only[Act.put]);refine Tp 10 (by assumption) ?_;(try simp only[Act.put]);refine Ra 11 (fun K hK=>?_);go_simp;refine Sm (hm2 _) ?_;go_wp2_with fail;refine hK.out _ _ (by first|exact Zbx (Below.refl _ _).drew Z.out|(repeat (with_reducible first|exact Z.out|refine Zbx (Below.refl _ _).drew ?_|refine Zbx (Zaa _ _) ?_|refine Zfz ?_))) (fun hHeld=>?_);clear hK K;(try simp only[Act.put]);refine Tp 12 (by assumption) ?_;(try simp only[Act.put]);refine Ra 13 (fun K hK=>?_);go_simp;refine hK.out _ _ (by first|exact Zbx (Below.refl _ _).drew Z.out|(repeat (with_reducible first|exact Z.out|refine Zbx (Below.refl _ _).drew ?_|refine Zbx (Zaa _ _) ?_|refine Zfz ?_))) (fun hHeld=>?_);clear hK K;(try simp only[Act.put]);refine wpAnyH_done (by kernel_rfl) ?_ _;exact hk
     have HX3:=Zab ((((HX.out.later (Zaa _ (.cells #[Vi L,Vi H,Vi U,Vi B,Vi M,.slice a al.length ca,.slice z zl.length cz] 107))).setD y).later (Below.refl _ _).drew).later (Below.refl _ _).drew);generalize hw3:World.drew (World.drew (World.setCell _ _ (Vi y)))=w3 at *;clear hw3 HX Z q0 q1 q2 q3 q4 q5 q6 s0 s1 s2 r0 r1 r2 r3 r4 p0 p1 p2 g0 g1 g2 f0 f1 f2 x1 x2;obtain⟨⟨q0,q1,q2,q3,q4,q5,q6⟩,⟨s0,s1,s2⟩,⟨r0,r1,r2,r3,r4⟩,⟨p0,p1,p2⟩,⟨g0,g1,g2⟩,⟨f0,f1,f2⟩,hB⟩:=HX3.out;go_wp2_with fail;refine bodyPost_ret (v:=.tuple #[.agg #[Vi A,Vi y,Vi W],.nilIface]) ?_ rfl ⟨rfl,((hB.setCell (by simp;omega) _).setCell (by simp;omega) _).setCell (by simp;omega) _⟩
     simp[results,results173,go_sem,p0,p1,p2]
   · rw[if_neg (fun h=>hg h.2)]
     have hg':(got==want)=false:=by simpa using hg
     have hn':(n==0)=true:=by simpa using hn
     clear hg hn
     go_enter func173,ntmps173
     go_wp2_with (go_at_call 215;refine Sb (hck _ HX.out.2.2.2.2.2.2) fun w1 hb=>?_;have HX:=Zab (HX.out.later hb);obtain⟨⟨q0,q1,q2,q3,q4,q5,q6⟩,⟨s0,s1,s2⟩,⟨r0,r1,r2,r3,r4⟩,⟨p0,p1,p2⟩,⟨g0,g1,g2⟩,⟨f0,f1,f2⟩,hB⟩:=HX.out;clear hB hb);exact bodyPost_ret (v:=.tuple #[.agg #[Vi A,Vi D,Vi W],.nilIface]) (by simp[results,results173,go_sem,p0,p1,p2]) rfl ⟨rfl,((HX.out.2.2.2.2.2.2.setCell (by simp;omega) _).setCell (by simp;omega) _).setCell (by simp;omega) _⟩
 · rw[if_neg (fun h=>hn h.1)]
   have hn':(n==0)=false:=by simpa using hn
   clear hn
   go_enter func173,ntmps173
   go_wp2_with (go_at_call 215;refine Sb (hck _ HX.out.2.2.2.2.2.2) fun w1 hb=>?_;have HX:=Zab (HX.out.later hb);obtain⟨⟨q0,q1,q2,q3,q4,q5,q6⟩,⟨s0,s1,s2⟩,⟨r0,r1,r2,r3,r4⟩,⟨p0,p1,p2⟩,⟨g0,g1,g2⟩,⟨f0,f1,f2⟩,hB⟩:=HX.out;clear hB hb);exact bodyPost_ret (v:=.tuple #[.agg #[Vi A,Vi D,Vi W],.nilIface]) (by simp[results,results173,go_sem,p0,p1,p2]) rfl ⟨rfl,((HX.out.2.2.2.2.2.2.setCell (by simp;omega) _).setCell (by simp;omega) _).setCell (by simp;omega) _⟩
theorem want_err(L H U B M:Int)(a z:Option Addr)(ca cz:Nat)(al zl:List Int)(A D W k p v n q:Int)(hm:al.length≤9223372036854775807)(hn:zl.length≤9223372036854775807)(hca:al.length≤ca)(h0:hoE L H U B M al zl A D W k n q≠0)(w:World)(ha:Lst w a al)(hz:Lst w z zl):
 Calls prog 167 #[.agg #[Vi L,Vi H,Vi U,Vi B,Vi M,.slice a al.length ca,.slice z zl.length cz],.agg #[Vi A,Vi D,Vi W],.agg #[Vi k,Vi p,Vi v,Vi n,Vi q]] w fun e w'=>e=.returned (.tuple #[Vi 0,.agg #[Vi 0,Vi 0,Vi 0],.iface 44 (Vi (hoE L H U B M al zl A D W k n q))])∧Below w.heap.size w w':=by
 have hck:=fun u (h:Below w.heap.size w u)=>Zhb L H U B M a z ca cz al zl A D W k p v n q hm hn hca u (ha.later h) (hz.later h);have HX:=Zab (HW.new w L H U B M a z al.length zl.length ca cz A D W k p v n q);simp only[Zbg h0] at hck;clear h0 ha hz;generalize hoE L H U B M al zl A D W k n q=E at*
 go_enter func167,ntmps167
 go_wp2_with (go_at_call 215;refine Sb (hck _ HX.out.2.2.2.2.2.2) fun w1 hb=>?_;have HX:=Zab (HX.out.later hb);obtain⟨⟨q0,q1,q2,q3,q4,q5,q6⟩,⟨s0,s1,s2⟩,⟨r0,r1,r2,r3,r4⟩,⟨p0,p1,p2⟩,⟨g0,g1,g2⟩,⟨f0,f1,f2⟩,hB⟩:=HX.out;clear hB hb);exact bodyPost_ret (v:=.tuple #[Vi 0,.agg #[Vi 0,Vi 0,Vi 0],.iface 44 (Vi E)]) (by simp[results,results167,go_sem,p0,p1,p2]) rfl ⟨rfl,((HX.out.2.2.2.2.2.2.setCell (by simp;omega) _).setCell (by simp;omega) _).setCell (by simp;omega) _⟩
theorem want_ok(L H U B M:Int)(a z:Option Addr)(ca cz:Nat)(al zl:List Int)(A D W k p v n q:Int)(hm:al.length≤9223372036854775807)(hn:zl.length≤9223372036854775807)(hca:al.length≤ca)(h0:hoE L H U B M al zl A D W k n q=0)(w:World)(ha:Lst w a al)(hz:Lst w z zl):
 Calls prog 167 #[.agg #[Vi L,Vi H,Vi U,Vi B,Vi M,.slice a al.length ca,.slice z zl.length cz],.agg #[Vi A,Vi D,Vi W],.agg #[Vi k,Vi p,Vi v,Vi n,Vi q]] w fun e w'=>e=.returned (.tuple #[Vi (wX L H U M al zl A D W k p v n q),.agg #[Vi (wA L H U A W k p n),Vi (wD L H U M al zl A D W k p v n q),Vi n],.nilIface])∧Below w.heap.size w w':=by
 have hck:=fun u (h:Below w.heap.size w u)=>Zhb L H U B M a z ca cz al zl A D W k p v n q hm hn hca u (ha.later h) (hz.later h);have HX:=Zab (HW.new w L H U B M a z al.length zl.length ca cz A D W k p v n q);simp only[h0,Zar] at hck;obtain⟨e1,e2,e3⟩:=Zec h0;obtain⟨e4,e5,e6,_⟩:=Zda e1;obtain⟨_,_,_,_,m0,m1⟩:=Zdb e4;obtain⟨⟨k0,k1⟩,⟨n0,n3'⟩,_,_⟩:=asB_true e3;have hgd:=Zig n
 by_cases n1:n≤1
 · unfold wX wA wD;rw[if_pos n1,if_pos n1,if_pos n1]
   rw[show betw n 0 1=true from Zbm n0 n1] at hgd;have hst:=fun u (h:Below w.heap.size w u)=>steer_ok L H U B M a z ca cz al zl A D W k p v n q hca h0 u (ha.later h) (hz.later h);clear h0 e1 e2 e3 e4 e6 ha hz;generalize wtI L H U M al zl A D W k p v n q=wt at *;generalize a2I L H U A W k p n=wa at *;generalize d2I L H U M al zl A D W k p v n q=wd at*
   go_enter func167,ntmps167
   go_wp2_with (first
    |(go_at_call 215;refine Sb (hck _ HX.out.2.2.2.2.2.2) fun w1 hb=>?_;have HX:=Zab (HX.out.later hb);obtain⟨⟨q0,q1,q2,q3,q4,q5,q6⟩,⟨s0,s1,s2⟩,⟨r0,r1,r2,r3,r4⟩,⟨p0,p1,p2⟩,⟨g0,g1,g2⟩,⟨f0,f1,f2⟩,hB⟩:=HX.out;clear hB hb)
    |(go_at_call 216;refine Sm (hgd _) ?_)
    |(go_at_call 217;refine Sb (hst _ HX.out.2.2.2.2.2.2) fun w2 hb=>?_;have HX:=Zab (HX.out.later hb);obtain⟨⟨q0,q1,q2,q3,q4,q5,q6⟩,⟨s0,s1,s2⟩,⟨r0,r1,r2,r3,r4⟩,⟨p0,p1,p2⟩,⟨g0,g1,g2⟩,⟨f0,f1,f2⟩,hB⟩:=HX.out;clear hB hb))
   exact bodyPost_ret (v:=.tuple #[Vi wt,.agg #[Vi wa,Vi wd,Vi n],.nilIface]) (by simp[results,results167,go_sem,p0,p1,p2]) rfl ⟨rfl,((HX.out.2.2.2.2.2.2.setCell (by simp;omega) _).setCell (by simp;omega) _).setCell (by simp;omega) _⟩
 · unfold wX wA wD;rw[if_neg n1,if_neg n1,if_neg n1]
   rw[show betw n 0 1=false by unfold betw;simp;omega] at hgd;have hhu:=holdHun_any k M k0 k1 (by omega) (by omega);clear h0 e1 e2 e3 e4 e6 ha hz;have GD:True:=trivial
   by_cases n2:n=2
   · rw[if_pos n2];subst n2;generalize hunI k M=hu at*
     go_enter func167,ntmps167
     go_upto_region 8 with(first
      |(go_at_call 215;refine Sb (hck _ HX.out.2.2.2.2.2.2) fun w1 hb=>?_;have HX:=Zab (HX.out.later hb);obtain⟨⟨q0,q1,q2,q3,q4,q5,q6⟩,⟨s0,s1,s2⟩,⟨r0,r1,r2,r3,r4⟩,⟨p0,p1,p2⟩,⟨g0,g1,g2⟩,⟨f0,f1,f2⟩,hB⟩:=HX.out;clear hB hb)
      |(go_at_call 216;refine Sm (hgd _) ?_))
     have HX2:=Zab (HX.out.setW 2);clear HX;generalize hw2:World.setCell _ _ (Vi _)=w2 at *;clear hw2 q0 q1 q2 q3 q4 q5 q6 s0 s1 s2 r0 r1 r2 r3 r4 p0 p1 p2 g0 g1 g2 f0 f1 f2;obtain⟨⟨q0,q1,q2,q3,q4,q5,q6⟩,⟨s0,s1,s2⟩,⟨r0,r1,r2,r3,r4⟩,⟨p0,p1,p2⟩,⟨g0,g1,g2⟩,⟨f0,f1,f2⟩,hB⟩:=HX2.out;have Z:=Zab (show(w2.cell? (Ad w.heap.size 4)=some (Vi M)∧w2.cell? (Ad (w.heap.size+1+1) 0)=some (Vi k))∧(w2.cell? (Ad (w.heap.size+1) 0)=some (Vi A)∧w2.cell? (Ad (w.heap.size+1) 1)=some (Vi D)∧w2.cell? (Ad (w.heap.size+1) 2)=some (Vi 2))∧Below w.heap.size w w2 from⟨⟨q4,r0⟩,⟨s0,s1,s2⟩,hB⟩);clear hB q0 q1 q2 q3 q4 q5 q6 s0 s1 s2 r0 r1 r2 r3 r4 g0 g1 g2
     go_region_held3 (fun u=>(u.cell? (Ad w.heap.size 4)=some (Vi M)∧u.cell? (Ad (w.heap.size+1+1) 0)=some (Vi k))∧(u.cell? (Ad (w.heap.size+1) 0)=some (Vi A)∧u.cell? (Ad (w.heap.size+1) 1)=some (Vi D)∧u.cell? (Ad (w.heap.size+1) 2)=some (Vi 2))∧Below w.heap.size w u)
      (first
       |(with_reducible assumption)
       |(with_reducible apply keepS2;with_reducible assumption;with_reducible assumption)
       |((repeat (with_reducible first|exact Z.out|assumption|refine keepS2 (Below.refl _ _).drew ?_|refine keepS2s ?_));done))
      (first
       |(go_at_call 218;refine Sm (hhu _) ?_))
     all_goals
      rename_i hH
      have HB:=Zab hH.2.2;clear hH;go_wp2_with fail;refine bodyPost_ret (v:=.tuple #[Vi hu,.agg #[Vi A,Vi D,Vi 2],.nilIface]) ?_ rfl ⟨rfl,HB.out⟩
      simp[results,results167,go_sem,p0,p1,p2]
   · rw[if_neg n2]
     obtain rfl:n=3:=by omega
     clear n1 n2 n0 n3' hhu
     go_enter func167,ntmps167
     go_upto_region 9 with(first
      |(go_at_call 215;refine Sb (hck _ HX.out.2.2.2.2.2.2) fun w1 hb=>?_;have HX:=Zab (HX.out.later hb);obtain⟨⟨q0,q1,q2,q3,q4,q5,q6⟩,⟨s0,s1,s2⟩,⟨r0,r1,r2,r3,r4⟩,⟨p0,p1,p2⟩,⟨g0,g1,g2⟩,⟨f0,f1,f2⟩,hB⟩:=HX.out;clear hB hb)
      |(go_at_call 216;refine Sm (hgd _) ?_))
     have HX2:=Zab (HX.out.setW 3);clear HX;generalize hw2:World.setCell _ _ (Vi _)=w2 at *;clear hw2 q0 q1 q2 q3 q4 q5 q6 s0 s1 s2 r0 r1 r2 r3 r4 p0 p1 p2 g0 g1 g2 f0 f1 f2;obtain⟨⟨q0,q1,q2,q3,q4,q5,q6⟩,⟨s0,s1,s2⟩,⟨r0,r1,r2,r3,r4⟩,⟨p0,p1,p2⟩,⟨g0,g1,g2⟩,⟨f0,f1,f2⟩,hB⟩:=HX2.out;have Z:=Zab (show(w2.cell? (Ad w.heap.size 4)=some (Vi M)∧w2.cell? (Ad (w.heap.size+1+1) 0)=some (Vi k))∧(w2.cell? (Ad (w.heap.size+1) 0)=some (Vi A)∧w2.cell? (Ad (w.heap.size+1) 1)=some (Vi D)∧w2.cell? (Ad (w.heap.size+1) 2)=some (Vi 3))∧Below w.heap.size w w2 from⟨⟨q4,r0⟩,⟨s0,s1,s2⟩,hB⟩);clear hB q0 q1 q2 q3 q4 q5 q6 s0 s1 s2 r0 r1 r2 r3 r4 g0 g1 g2
     go_region_held3 (fun u=>(u.cell? (Ad w.heap.size 4)=some (Vi M)∧u.cell? (Ad (w.heap.size+1+1) 0)=some (Vi k))∧(u.cell? (Ad (w.heap.size+1) 0)=some (Vi A)∧u.cell? (Ad (w.heap.size+1) 1)=some (Vi D)∧u.cell? (Ad (w.heap.size+1) 2)=some (Vi 3))∧Below w.heap.size w u)
      (first
       |(with_reducible assumption)
       |(with_reducible apply keepS2;with_reducible assumption;with_reducible assumption)
       |((repeat (with_reducible first|exact Z.out|assumption|refine keepS2 (Below.refl _ _).drew ?_|refine keepS2s ?_));done))
      (fail)
     all_goals
      rename_i hH
      have HB:=Zab hH.2.2;clear hH;go_wp2_with fail;refine bodyPost_ret (v:=.tuple #[Vi 0,.agg #[Vi A,Vi D,Vi 3],.nilIface]) ?_ rfl ⟨rfl,HB.out⟩
      simp[results,results167,go_sem,p0,p1,p2]
theorem Zcj:(prog.info? 38).map (·.size)=some 3:=by kernel_rfl
theorem infoP2:(prog.info? 105).map (·.size)=some 2:=by kernel_rfl
theorem svL_putIs(x:Int):∀(L:List Sv) (k:Nat),k<L.length→(svL L).set (k*3) (Vi x)=svL (L.set k (x,(svAt L k).2))
 |[],_,h=>by simp at h
 |s::r,0,_=>rfl
 |s::r,k+1,h=>by
  have:=svL_putIs x r k (by simpa using h);rw[show(k+1)*3=k*3+1+1+1 by omega];simp only[svL,List.set_cons_succ,this]
  simp[svAt]
theorem FR.putIs{K:Nat}{w0 u:World}{B:Nat}{S:FS}{C:CR}{a:Option Addr}{cap:Nat}{l:List Rd}{sv:Nat→List Sv}{G:Nat→Nat}(h:FR K w0 u B S C a cap l sv G){i k:Nat}(hi:i<2)(hk:k<(sv i).length)(x:Int):FR K w0 (u.setCell (Ad (G i) (k*3)) (Vi x)) B S C a cap l (upd sv i ((sv i).set k (x,(svAt (sv i) k).2))) G:=by
 have hs:=h.servo i hi;have e:u.setCell (Ad (G i) (k*3)) (Vi x)=u.setCells (G i) (k*3) [Vi x]:=rfl;rw[e];refine⟨Blk.farCells hs.2.2.2.2.1.symm _ _ _ h.blk,Zbe hs.2.2.2.2.2 _ _ _ h.rds,Zag _ _ _ h.low hs.2.2.2.1,h.base,h.far,fun j hj=>?_,h.two,h.many,fun b h1 h2 h3 h4=>(heap_far (show b≠G i by rcases(show i=0∨i=1 by omega) with rfl|rfl<;>assumption) _ _ _).trans (h.oth b h1 h2 h3 h4)⟩;have hsj:=h.servo j hj
 by_cases e:j=i
 · subst e;rw[Zan];exact⟨hsj.1,by rw[List.length_set];exact hsj.2.1,svL_putIs x (sv j) k hk▸Blk.setCells [Vi x] _ _ _ hsj.2.2.1,hsj.2.2.2⟩
 · rw[Zbb sv _ e]
   have hG:G j≠G i:=by
    have:=h.two
    rcases(show(j=0∧i=1)∨(j=1∧i=0) by omega) with⟨rfl,rfl⟩|⟨rfl,rfl⟩
    · exact this
    · exact this.symm
   exact⟨hsj.1,hsj.2.1,Blk.farCells hG _ _ _ hsj.2.2.1,hsj.2.2.2⟩
theorem plI_bd{T R S C:Int}{L:List Sv}(h:AllOk T R S C L)(s:Int){k:Nat}(hk:k<L.length):-2147483647≤(plI T R L s).getD k 0∧(plI T R L s).getD k 0≤2147483647:=by
 have g:∀(v s:Int) n k,k<n→(dlU T R L v s n).getD k 0=dlI T R L v s k:=by
  intro v s n
  induction n with
  |zero=>intro k h;omega
  |succ n ih=>
   intro k h;rw[dlU,List.getD_eq_getElem?_getD]
   by_cases e:k=n
   · subst e;rw[List.getElem?_append_right (by rw[Zcn];omega),Zcn];simp
   · rw[List.getElem?_append_left (by rw[Zcn];omega),←List.getD_eq_getElem?_getD];exact ih k (by omega)
 unfold plI
 rw[g _ _ _ _ hk];have a:=tk_bd h hk (levI T R L (smI T R L s))
 unfold dlI
 split<;>omega
theorem low_up{K:Nat}{wz w u:World}(h:Below K wz w)(hk:K≤w.heap.size)(hb:Below w.heap.size w u):Below K wz u:=h.trans (hb.mono hk)
theorem upd_sik0(sv:Nat→List Sv)(i:Nat)(p:List Int):upd sv i (sik (sv i) p 0)=sv:=by
 funext j;rw[sik_zero];unfold upd;split
 · rename_i h;rw[h]
 · rfl
theorem svL_get:∀(L:List Sv) (k:Nat),k<L.length→(svL L)[k*3]?=some (Vi (svAt L k).1)
 |[],_,h=>by simp at h
 |s::r,0,_=>rfl
 |s::r,k+1,h=>by
  have:=svL_get r k (by simpa using h);rw[show(k+1)*3=k*3+1+1+1 by omega]
  simpa[svL,svAt] using this
theorem sik_end(L:List Sv)(p:List Int){k:Nat}(hk:k<L.length):svAt (sik L p L.length) k=(p.getD k 0,(svAt L k).2):=by
 simp[sik,svAt,hk]
theorem ils_get{u:World}{g:Nat}{p:List Int}(h:ILs u (some (Ad g 0)) p){k:Nat}(hk:k<p.length):u.cell? (Ad g k)=some (Vi (p.getD k 0)):=by
 rcases h with h|⟨b,off,h,hc⟩
 · subst h;simp at hk
 · simp only[Option.some.injEq,Addr.mk.injEq] at h;obtain⟨rfl,rfl,_⟩:=h
   simpa using hc k hk
theorem ils_far{u:World}{g V j:Nat}{x:Value}{p:List Int}(hg:g≠V)(h:ILs u (some (Ad g 0)) p):ILs (u.setCell (Ad V j) x) (some (Ad g 0)) p:=by
 rcases h with h|⟨b,off,h,hc⟩
 · exact .inl h
 · simp only[Option.some.injEq,Addr.mk.injEq] at h;obtain⟨rfl,rfl,_⟩:=h;refine .inr ⟨g,0,rfl,fun k hk=>?_⟩;rw[World.cell?_setCell_other _ _ _ _ (fun e=>hg (congrArg Addr.block e).symm)];exact hc k hk
theorem Blk.farCell{t:TypeId}{u:World}{V g j:Nat}{x:Value}{cs:List Value}(hV:V≠g)(h:Blk t u V cs):Blk t (u.setCell (Ad g j) x) V cs:=Blk.farCells hV [x] j u h
structure MvOK (K:Nat) (wz:World) (C:CR) (S:FS) (l:List Rd) (sv:Nat→List Sv) (i:Nat):Prop where
 n1:1≤(sv i).length
 n4:(sv i).length≤4
 m0:(C.al i).length≤9223372036854775807
 m1:(C.zl i).length≤9223372036854775807
 mc:(C.al i).length≤C.cn i
 line:∀u,Below K wz u→Lst u (C.p i) (C.al i)∧Lst u (C.q i) (C.zl i)
 ok:AllOk (C.a i 5) (C.a i 6) (C.a i 7) (C.a i 10) (sv i)
 h4:2≤C.a i 4∧C.a i 4≤4
 h5:1≤C.a i 5∧C.a i 5≤1000
 h3:0≤C.a i 3∧C.a i 3≤1000
 h7:0≤C.a i 7∧C.a i 7≤1000
 h6:1≤C.a i 6∧C.a i 6≤1000
 ho:hoE (C.a i 0) (C.a i 1) (C.a i 11) (C.a i 14) (moI C i) (C.al i) (C.zl i) (S.hd i).1 (S.hd i).2.1 (S.hd i).2.2 (skI l i) S.n (pvI C i (sv i))=0
 gm:gmE (C.a i 0) (C.a i 1) (C.a i 2) (puI C i) (moI C i) (raI C i) (pvI C i (sv i))=0
section
variable {K : Nat} {wz : World} {C : CR} {S : FS} {l : List Rd} {sv : Nat → List Sv} {i : Nat}
theorem MvOK.mo(h:MvOK K wz C S l sv i):1≤moI C i∧moI C i≤3000:=by
 have h4:=h.h4;have h5:=h.h5
 unfold moI
 exact⟨by have:=Int.mul_le_mul (show 1≤C.a i 4-1 by omega) h5.1 (by omega) (by omega);omega,by have:=Int.mul_le_mul (show C.a i 4-1≤3 by omega) h5.2 (by omega) (by omega);omega⟩
theorem MvOK.ra(h:MvOK K wz C S l sv i):1≤raI C i∧raI C i≤3000:=by
 have h4:=h.h4;have h6:=h.h6
 unfold raI
 exact⟨by have:=Int.mul_le_mul (show 1≤C.a i 4-1 by omega) h6.1 (by omega) (by omega);omega,by have:=Int.mul_le_mul (show C.a i 4-1≤3 by omega) h6.2 (by omega) (by omega);omega⟩
theorem MvOK.is(h:MvOK K wz C S l sv i):∀k,k<(sv i).length→-2147483647≤(svAt (sv i) k).1∧(svAt (sv i) k).1≤2147483647:=fun k hk=>by
 have a:=Zat h.ok.1;have b:=Zbd (h.ok.2 k hk)
 omega
theorem MvOK.bounds(h:MvOK K wz C S l sv i)(k p v:Int)(w:World):
 Calls prog 169 #[.agg #[Vi (C.a i 0),Vi (C.a i 1),Vi (C.a i 2),Vi (puI C i),Vi (moI C i),Vi (raI C i)],.agg #[Vi k,Vi p,Vi v,Vi S.n,Vi (pvI C i (sv i))]] w fun e w'=>e=.returned (.tuple #[.agg #[Vi (bdL C i p S.n (pvI C i (sv i))),Vi (bdH C i p S.n (pvI C i (sv i)))],.nilIface])∧Below w.heap.size w w':=by
 have hm:=h.mo;have hr:=h.ra;have hp:=Zcd (v:=smU (sv i) (sv i).length) (show -moI C i≤moI C i by omega)
 cases hn:betw S.n 0 1
 · refine Sb (bounds_free _ _ _ _ _ _ k p v S.n (pvI C i (sv i)) hn ⟨by unfold pvI;omega,by unfold pvI;omega⟩ ⟨by omega,by omega⟩ w) fun w' hb=>?_;refine⟨?_,hb⟩
   unfold bdL bdH
   rw[hn]
   rfl
 · refine(bounds_kept _ _ _ _ _ _ k p v S.n (pvI C i (sv i)) hn h.gm w).mono ?_;rintro e w' ⟨⟨x,y,rfl,hx,hy⟩,hb⟩;refine⟨?_,hb⟩
   unfold bdL bdH
   rw[hn,if_pos rfl,if_pos rfl,hiI_is hx,hiI_is hy]
theorem MvOK.spread(h:MvOK K wz C S l sv i)(s:Int)(g:Nat)(ca:Nat)(w:World)(hv:VLs w (some (Ad g 0)) (sv i)):
 Calls prog 171 #[.agg #[Vi (C.a i 5),Vi (C.a i 6),Vi (C.a i 7),Vi (C.a i 10)],.slice (some (Ad g 0)) (sv i).length ca,Vi s] w fun e w'=>(∃x cap,e=.returned (.tuple #[.slice (some (Ad x 0)) (sv i).length cap,.nilIface])∧w.heap.size≤x∧ILs w' (some (Ad x 0)) (plI (C.a i 5) (C.a i 6) (sv i) s))∧Below w.heap.size w w':=
 spread_at (C.a i 5) (C.a i 6) (C.a i 7) (C.a i 10) s _ (sv i) (some (Ad g 0)) ca h.ok h.n1 h.n4 (levI_is (by have:=h.h5;omega) (Zcd (v:=s) (Zdy _ _ (sv i) (show -C.a i 5≤C.a i 5 by have:=h.h5;omega))).1) w hv
end
def clE(n:Int):Int:=if betw n 0 3 then 0 else 3
theorem checkLaw_any(n:Int)(w:World):Calls prog 119 #[Vi n] w fun e w'=>e=.returned (errV (clE n))∧Below w.heap.size w w':=by
 have h:=Zgv n
 unfold clE
 generalize betw n 0 3=b at*
 cases b
 · rw[if_neg (by simp),Zbg (by decide)]
   go_enter func119,ntmps119
   go_wp2_with (go_at_call 165;refine Sb (h _) fun w1 hb=>?_);go_ret;exact⟨rfl,hb⟩
 · rw[if_pos rfl,Zar]
   go_enter func119,ntmps119
   go_wp2_with (go_at_call 165;refine Sb (h _) fun w1 hb=>?_);go_ret;exact⟨rfl,hb⟩
def seU(C:CR)(i:Nat)(L:List Sv):Nat→Int
 |0=>0
 |k+1=>if seU C i L k=0 then svE (C.a i 5) (C.a i 6) (C.a i 7) (C.a i 10) (svAt L k).1 (svAt L k).2.1 (svAt L k).2.2 else seU C i L k
theorem seU_stay{C:CR}{i:Nat}{L:List Sv}{k:Nat}(h:seU C i L k≠0):∀m,k≤m→seU C i L m=seU C i L k:=by
 intro m hm
 induction m with
 |zero=>
  have:k=0:=by omega
  subst this;rfl
 |succ m ih=>
  by_cases e:k=m+1
  · subst e;rfl
  · have i:=ih (by omega);rw[seU,i,if_neg h]
def csE(C:CR)(i:Nat)(L:List Sv):Int:=if(L.length:Int)=C.a i 4 then seU C i L L.length else 3
theorem checkServos_any(C:CR)(i:Nat)(L:List Sv)(a:Option Addr)(cap:Nat)(hl:L.length≤9)(w:World)(hv:VLs w a L):
 Calls prog 123 #[.agg #[Vi (C.a i 0),Vi (C.a i 1),Vi (C.a i 2),Vi (C.a i 3),Vi (C.a i 4),Vi (C.a i 5),Vi (C.a i 6),Vi (C.a i 7),Vi (C.a i 8),Vi (C.a i 9),Vi (C.a i 10),Vi (C.a i 11),.slice (C.p i) (C.al i).length (C.cn i),.slice (C.q i) (C.zl i).length (C.cm i),Vi (C.a i 14)],.slice a L.length cap] w fun e w'=>e=.returned (errV (csE C i L))∧Below w.heap.size w w':=by
 have HV:=Zab hv;have har:=Zed (C.a i 0) (C.a i 1) (C.a i 2) (C.a i 3) (C.a i 4) (C.a i 5) (C.a i 6) (C.a i 7) (C.a i 8) (C.a i 9) (C.a i 10) (C.a i 11) (C.a i 14) (C.p i) (C.q i) (C.al i).length (C.zl i).length (C.cn i) (C.cm i);clear hv
 by_cases hn:(L.length:Int)=C.a i 4
 · have HE:Hid (csE C i L=seU C i L L.length):=Zab (by unfold csE;rw[if_pos hn]);rw[HE.out];have HA0:Hid (Blk 26 (w.alloc (.cells #[Vi (C.a i 0),Vi (C.a i 1),Vi (C.a i 2),Vi (C.a i 3),Vi (C.a i 4),Vi (C.a i 5),Vi (C.a i 6),Vi (C.a i 7),Vi (C.a i 8),Vi (C.a i 9),Vi (C.a i 10),Vi (C.a i 11),.slice (C.p i) (C.al i).length (C.cn i),.slice (C.q i) (C.zl i).length (C.cm i),Vi (C.a i 14)] 26)) w.heap.size [Vi (C.a i 0),Vi (C.a i 1),Vi (C.a i 2),Vi (C.a i 3),Vi (C.a i 4),Vi (C.a i 5),Vi (C.a i 6),Vi (C.a i 7),Vi (C.a i 8),Vi (C.a i 9),Vi (C.a i 10),Vi (C.a i 11),.slice (C.p i) (C.al i).length (C.cn i),.slice (C.q i) (C.zl i).length (C.cm i),Vi (C.a i 14)]):=Zab (Blk.new w _ _)
   go_enter func123,ntmps123
   go_upto_region 4 with fail;have HB0:=Zab (Zaa w (.cells #[Vi (C.a i 0),Vi (C.a i 1),Vi (C.a i 2),Vi (C.a i 3),Vi (C.a i 4),Vi (C.a i 5),Vi (C.a i 6),Vi (C.a i 7),Vi (C.a i 8),Vi (C.a i 9),Vi (C.a i 10),Vi (C.a i 11),.slice (C.p i) (C.al i).length (C.cn i),.slice (C.q i) (C.zl i).length (C.cm i),Vi (C.a i 14)] 26));generalize w.alloc (.cells #[Vi (C.a i 0),Vi (C.a i 1),Vi (C.a i 2),Vi (C.a i 3),Vi (C.a i 4),Vi (C.a i 5),Vi (C.a i 6),Vi (C.a i 7),Vi (C.a i 8),Vi (C.a i 9),Vi (C.a i 10),Vi (C.a i 11),.slice (C.p i) (C.al i).length (C.cn i),.slice (C.q i) (C.zl i).length (C.cm i),Vi (C.a i 14)] 26)=w1 at *;generalize w.heap.size=QA at HA0⊢
   go_loopw [16] (fun ix wr=>∃k:Nat,k≤L.length∧ix=Vi k∧Hid (seU C i L k=0)∧Blk 26 wr QA [Vi (C.a i 0),Vi (C.a i 1),Vi (C.a i 2),Vi (C.a i 3),Vi (C.a i 4),Vi (C.a i 5),Vi (C.a i 6),Vi (C.a i 7),Vi (C.a i 8),Vi (C.a i 9),Vi (C.a i 10),Vi (C.a i 11),.slice (C.p i) (C.al i).length (C.cn i),.slice (C.q i) (C.zl i).length (C.cm i),Vi (C.a i 14)]∧Below w.heap.size w wr) (fun ix _=>L.length-(intOf ix).toNat)
   case atStart=>exact⟨0,Nat.zero_le _,rfl,Zab rfl,HA0.out,HB0.out⟩
   case round=>
    obtain⟨k,hk,rfl,hE,hax,hbw⟩:=hrel;clear HA0 HB0
    by_cases hlt:k<L.length
    · obtain⟨b,off,rfl,c0,c1,c2⟩:=(HV.out.later hbw).at hlt;have hck:=Zdr (C.a i 5) (C.a i 6) (C.a i 7) (C.a i 10) (svAt L k).1 (svAt L k).2.1 (svAt L k).2.2;have HS:Hid (seU C i L (k+1)=svE (C.a i 5) (C.a i 6) (C.a i 7) (C.a i 10) (svAt L k).1 (svAt L k).2.1 (svAt L k).2.2):=Zab (by rw[seU,if_pos hE.out]);generalize svE (C.a i 5) (C.a i 6) (C.a i 7) (C.a i 10) (svAt L k).1 (svAt L k).2.1 (svAt L k).2.2=se at *;generalize (svAt L k).1=si at *;generalize (svAt L k).2.1=sb at *;generalize (svAt L k).2.2=so at*
      have k0:(0:Int)≤(k:Int):=by omega
      have k1:(k:Int)<(L.length:Int):=by omega
      have HB1:=Zab (Zac hbw (Zaa wr (.cells #[Vi si,Vi sb,.bool so] 116)));have HAX:=Zab (hax.later (Zaa wr (.cells #[Vi si,Vi sb,.bool so] 116)));have HQS:Hid (Blk 116 (wr.alloc (.cells #[Vi si,Vi sb,.bool so] 116)) wr.heap.size [Vi si,Vi sb,.bool so]):=Zab (Blk.new wr _ _);clear hax hbw hE
      go_upto_region 6 with fail;clear c0 c1 c2;generalize wr.alloc (.cells #[Vi si,Vi sb,.bool so] 116)=w2 at *;generalize wr.heap.size=QS at HQS⊢;have HAXr:=Zab HAX.out.range;have HSVr:=Zab HQS.out.range;clear HQS
      by_cases he:se=0
      · subst he;simp only[Zar] at hck;refine Cs [20,21,22,23,7] ?_;refine Cl (x:=.tmp 2) 0 20 [] (fun y w _ u hSw=>⟨Zae HAXr.out hSw,rfl⟩) underlying26 Zav ?_;refine Cc 1 21 [0] (fun y w h _=>har _) ?_;refine Cl (x:=.tmp 6) 2 22 [] (fun y w _ u hSw=>⟨Zae HSVr.out hSw,rfl⟩) underlying116 Zgl ?_;refine Cc 3 23 [1,2] (fun y w h _=>hck _) ?_;refine Cp 4 7 [3] ?_;refine Ce (fun y u1 hB hf=>?_);have HS1:=Zab hB;clear hB hf;go_simp;have hB:=HS1.out;clear HS1;generalize u1=v6 at hB   ⊢;refine Zby (by assumption) ?_;clear HAXr HSVr;have HB6:=Zab (Zac HB1.out hB);have HAX:=Zab (HAX.out.later hB);clear hB HB1;go_wp2_with fail;go_roundw
        case rel=>exact⟨k+1,by omega,by go_num,HS,HAX.out,HB6.out⟩
        case measure=>simp[intOf];omega
      · simp only[Zbg he] at hck;refine Cs [20,21,22,23,7] ?_;refine Cl (x:=.tmp 2) 0 20 [] (fun y w _ u hSw=>⟨Zae HAXr.out hSw,rfl⟩) underlying26 Zav ?_;refine Cc 1 21 [0] (fun y w h _=>har _) ?_;refine Cl (x:=.tmp 6) 2 22 [] (fun y w _ u hSw=>⟨Zae HSVr.out hSw,rfl⟩) underlying116 Zgl ?_;refine Cc 3 23 [1,2] (fun y w h _=>hck _) ?_;refine Cp 4 7 [3] ?_;refine Ce (fun y u2 hB hf=>?_);have HS2:=Zab hB;clear hB hf;go_simp;have hB:=HS2.out;clear HS2;generalize u2=v6 at hB   ⊢;refine Zby (by assumption) ?_;clear HAXr HSVr;have HB6:=Zab (Zac HB1.out hB);clear hB HB1;go_wp2_with fail;go_ret;refine⟨?_,HB6.out⟩;rw[seU_stay (by rw[HS.out];exact he) _ hlt,HS.out,Zbg he]
        rfl
    · obtain rfl:k=L.length:=by omega
      go_wp2_with fail;go_ret;exact⟨by rw[hE.out];rfl,hbw⟩
 · have HE:Hid (csE C i L=3):=Zab (by unfold csE;rw[if_neg hn]);rw[HE.out,Zbg (by decide)]
   have hne:(decide ((L.length:Int)=C.a i 4))=false:=by simpa using hn
   go_enter func123,ntmps123
   go_wp2_with fail;go_ret;exact⟨rfl,Zaa _ _⟩
def chE(C:CR)(i:Nat)(h:Int×Int×Int):Int:=hoE (C.a i 0) (C.a i 1) (C.a i 11) (C.a i 14) (moI C i) (C.al i) (C.zl i) h.1 h.2.1 h.2.2 0 0 0
structure AxC (u:World) (C:CR) (i:Nat):Prop where
 h4:2≤C.a i 4∧C.a i 4≤4
 h5:1≤C.a i 5∧C.a i 5≤1000
 h3:0≤C.a i 3∧C.a i 3≤1000
 h7:0≤C.a i 7∧C.a i 7≤1000
 h6:1≤C.a i 6∧C.a i 6≤1000
 m0:(C.al i).length≤9223372036854775807
 m1:(C.zl i).length≤9223372036854775807
 mc:(C.al i).length≤C.cn i
 la:Lst u (C.p i) (C.al i)
 lz:Lst u (C.q i) (C.zl i)
theorem AxC.later{u u':World}{C:CR}{i:Nat}(h:AxC u C i)(hb:Below u.heap.size u u'):AxC u' C i:=⟨h.h4,h.h5,h.h3,h.h7,h.h6,h.m0,h.m1,h.mc,h.la.later hb,h.lz.later hb⟩
theorem want_some{C:CR}{i:Nat}{w:World}(h:AxC w C i)(hd:Int×Int×Int):∃x x0 x1 x2:Int,∀u,Below w.heap.size w u→Calls prog 167 #[.agg #[Vi (C.a i 0),Vi (C.a i 1),Vi (C.a i 11),Vi (C.a i 14),Vi (moI C i),.slice (C.p i) (C.al i).length (C.cn i),.slice (C.q i) (C.zl i).length (C.cm i)],.agg #[Vi hd.1,Vi hd.2.1,Vi hd.2.2],.agg #[Vi 0,Vi 0,Vi 0,Vi 0,Vi 0]] u fun e w'=>e=.returned (.tuple #[Vi x,.agg #[Vi x0,Vi x1,Vi x2],errV (chE C i hd)])∧Below u.heap.size u w':=by
 by_cases he:chE C i hd=0
 · simp only[he,Zar];exact⟨_,_,_,_,fun u hb=>want_ok (C.a i 0) (C.a i 1) (C.a i 11) (C.a i 14) (moI C i) (C.p i) (C.q i) (C.cn i) (C.cm i) (C.al i) (C.zl i) hd.1 hd.2.1 hd.2.2 0 0 0 0 0 h.m0 h.m1 h.mc he u (h.la.later hb) (h.lz.later hb)⟩
 · simp only[Zbg he];exact⟨0,0,0,0,fun u hb=>want_err (C.a i 0) (C.a i 1) (C.a i 11) (C.a i 14) (moI C i) (C.p i) (C.q i) (C.cn i) (C.cm i) (C.al i) (C.zl i) hd.1 hd.2.1 hd.2.2 0 0 0 0 0 h.m0 h.m1 h.mc he u (h.la.later hb) (h.lz.later hb)⟩
theorem checkHold_any(C:CR)(i:Nat)(hd:Int×Int×Int)(w:World)(h:AxC w C i):
 Calls prog 125 #[.agg #[Vi (C.a i 0),Vi (C.a i 1),Vi (C.a i 2),Vi (C.a i 3),Vi (C.a i 4),Vi (C.a i 5),Vi (C.a i 6),Vi (C.a i 7),Vi (C.a i 8),Vi (C.a i 9),Vi (C.a i 10),Vi (C.a i 11),.slice (C.p i) (C.al i).length (C.cn i),.slice (C.q i) (C.zl i).length (C.cm i),Vi (C.a i 14)],.agg #[Vi hd.1,Vi hd.2.1,Vi hd.2.2]] w fun e w'=>e=.returned (errV (chE C i hd))∧Below w.heap.size w w':=by
 obtain⟨x,x0,x1,x2,hwn⟩:=want_some h hd;have hhr0:=Zew (C.a i 0) (C.a i 1) (C.a i 2) (C.a i 3) (C.a i 4) (C.a i 5) (C.a i 6) (C.a i 7) (C.a i 8) (C.a i 9) (C.a i 10) (C.a i 11) (C.a i 14) (C.p i) (C.q i) (C.al i).length (C.zl i).length (C.cn i) (C.cm i) h.h4 h.h5 h.h3 h.h7 h.h6;have hhr:∀u,Calls prog 168 #[.agg #[Vi (C.a i 0),Vi (C.a i 1),Vi (C.a i 2),Vi (C.a i 3),Vi (C.a i 4),Vi (C.a i 5),Vi (C.a i 6),Vi (C.a i 7),Vi (C.a i 8),Vi (C.a i 9),Vi (C.a i 10),Vi (C.a i 11),.slice (C.p i) (C.al i).length (C.cn i),.slice (C.q i) (C.zl i).length (C.cm i),Vi (C.a i 14)]] u fun e w'=>e=.returned (.agg #[Vi (C.a i 0),Vi (C.a i 1),Vi (C.a i 11),Vi (C.a i 14),Vi (moI C i),.slice (C.p i) (C.al i).length (C.cn i),.slice (C.q i) (C.zl i).length (C.cm i)])∧Below u.heap.size u w':=hhr0;clear hhr0 h;generalize chE C i hd=ce at *;generalize moI C i=mo at *;obtain⟨h0,h1,h2⟩:=hd
 dsimp only at*
 have HA0:=Zab ((Blk.new w 26 [Vi (C.a i 0),Vi (C.a i 1),Vi (C.a i 2),Vi (C.a i 3),Vi (C.a i 4),Vi (C.a i 5),Vi (C.a i 6),Vi (C.a i 7),Vi (C.a i 8),Vi (C.a i 9),Vi (C.a i 10),Vi (C.a i 11),.slice (C.p i) (C.al i).length (C.cn i),.slice (C.q i) (C.zl i).length (C.cm i),Vi (C.a i 14)]).later (Zaa _ (.cells #[Vi h0,Vi h1,Vi h2] 38)))
 have HH0:Hid (Blk 38 ((w.alloc (.cells #[Vi (C.a i 0),Vi (C.a i 1),Vi (C.a i 2),Vi (C.a i 3),Vi (C.a i 4),Vi (C.a i 5),Vi (C.a i 6),Vi (C.a i 7),Vi (C.a i 8),Vi (C.a i 9),Vi (C.a i 10),Vi (C.a i 11),.slice (C.p i) (C.al i).length (C.cn i),.slice (C.q i) (C.zl i).length (C.cm i),Vi (C.a i 14)] 26)).alloc (.cells #[Vi h0,Vi h1,Vi h2] 38)) (w.heap.size+1) [Vi h0,Vi h1,Vi h2]):=Zab (by
  have:=Blk.new (w.alloc (.cells #[Vi (C.a i 0),Vi (C.a i 1),Vi (C.a i 2),Vi (C.a i 3),Vi (C.a i 4),Vi (C.a i 5),Vi (C.a i 6),Vi (C.a i 7),Vi (C.a i 8),Vi (C.a i 9),Vi (C.a i 10),Vi (C.a i 11),.slice (C.p i) (C.al i).length (C.cn i),.slice (C.q i) (C.zl i).length (C.cm i),Vi (C.a i 14)] 26)) 38 [Vi h0,Vi h1,Vi h2];rw[World.size_alloc] at this;exact this)
 have HBW:=Zab (Zac (Zaa w (.cells #[Vi (C.a i 0),Vi (C.a i 1),Vi (C.a i 2),Vi (C.a i 3),Vi (C.a i 4),Vi (C.a i 5),Vi (C.a i 6),Vi (C.a i 7),Vi (C.a i 8),Vi (C.a i 9),Vi (C.a i 10),Vi (C.a i 11),.slice (C.p i) (C.al i).length (C.cn i),.slice (C.q i) (C.zl i).length (C.cm i),Vi (C.a i 14)] 26)) (Zaa _ (.cells #[Vi h0,Vi h1,Vi h2] 38)))
 go_enter func125,ntmps125
 go_upto_region 1 with fail;have HAXr:Hid (((w.alloc (.cells #[Vi (C.a i 0),Vi (C.a i 1),Vi (C.a i 2),Vi (C.a i 3),Vi (C.a i 4),Vi (C.a i 5),Vi (C.a i 6),Vi (C.a i 7),Vi (C.a i 8),Vi (C.a i 9),Vi (C.a i 10),Vi (C.a i 11),.slice (C.p i) (C.al i).length (C.cn i),.slice (C.q i) (C.zl i).length (C.cm i),Vi (C.a i 14)] 26)).alloc (.cells #[Vi h0,Vi h1,Vi h2] 38)).rangeAt w.heap.size 0 [Vi (C.a i 0),Vi (C.a i 1),Vi (C.a i 2),Vi (C.a i 3),Vi (C.a i 4),Vi (C.a i 5),Vi (C.a i 6),Vi (C.a i 7),Vi (C.a i 8),Vi (C.a i 9),Vi (C.a i 10),Vi (C.a i 11),.slice (C.p i) (C.al i).length (C.cn i),.slice (C.q i) (C.zl i).length (C.cm i),Vi (C.a i 14)]):=Zab HA0.out.range;have HHDr:=Zab HH0.out.range;clear HA0 HH0;have HBW:Hid (Below w.heap.size w ((w.alloc (.cells #[Vi (C.a i 0),Vi (C.a i 1),Vi (C.a i 2),Vi (C.a i 3),Vi (C.a i 4),Vi (C.a i 5),Vi (C.a i 6),Vi (C.a i 7),Vi (C.a i 8),Vi (C.a i 9),Vi (C.a i 10),Vi (C.a i 11),.slice (C.p i) (C.al i).length (C.cn i),.slice (C.q i) (C.zl i).length (C.cm i),Vi (C.a i 14)] 26)).alloc (.cells #[Vi h0,Vi h1,Vi h2] 38))):=HBW;generalize (w.alloc (.cells #[Vi (C.a i 0),Vi (C.a i 1),Vi (C.a i 2),Vi (C.a i 3),Vi (C.a i 4),Vi (C.a i 5),Vi (C.a i 6),Vi (C.a i 7),Vi (C.a i 8),Vi (C.a i 9),Vi (C.a i 10),Vi (C.a i 11),.slice (C.p i) (C.al i).length (C.cn i),.slice (C.q i) (C.zl i).length (C.cm i),Vi (C.a i 14)] 26)).alloc (.cells #[Vi h0,Vi h1,Vi h2] 38)=w2 at *;refine Cs [9,10,11,12,13,8,14,15,16,6,5] ?_;refine Cl (x:=.tmp 2) 0 9 [] (fun y w _ u hSw=>⟨Zae HAXr.out hSw,rfl⟩) underlying26 Zav ?_;refine Cc 1 10 [0] (fun y w h _=>hhr _) ?_;refine Cl (x:=.tmp 3) 2 11 [] (fun y w _ u hSw=>⟨Zae HHDr.out hSw,rfl⟩) underlying38 Zcj ?_;refine Cp 3 12 [] ?_;refine Cc 4 13 [1,2,3] (fun y w h _=>hwn _ (Zac HBW.out h)) ?_;refine Cp 5 8 [4] ?_;refine Cp 6 14 [5] ?_;refine Cp 7 15 [5] ?_;refine Cp 8 16 [5] ?_;refine Ca 9 6 ?_;refine Cp 10 5 [6] ?_;refine Cn 2 13 [11,12] (fun y u1 hB hf=>?_);obtain⟨XA,e,hA⟩:=hf.2.1;have HAA1:Hid (NB _ _ _ XA [Vi 0,Vi 0,Vi 0]):=Zab hA;(try simp only[e]);clear e hA;have HS1:=Zab hB;clear hB hf;refine Ra 11 (fun K hK=>?_);rw[if_pos (by rfl)];refine Zam 38 (.tmp 6) (.tmp 15) rfl XA 0 #[Vi x0,Vi x1,Vi x2] rfl rfl (HAA1.out.1.there (Nat.le_of_ble_eq_true rfl)) Zcj (Zaq _ rfl) rfl ?_
 have HS2:=Zab (Zag [Vi x0,Vi x1,Vi x2] 0 u1 HS1.out (NB.le HAA1.out));have HAA2:Hid (NB 38 w2.heap.size (u1.setCells XA 0 [Vi x0,Vi x1,Vi x2]) XA [Vi x0,Vi x1,Vi x2]):=Zab ⟨Blk.setCells [Vi x0,Vi x1,Vi x2] 0 u1 [Vi 0,Vi 0,Vi 0] HAA1.out.1,NB.le HAA1.out⟩;generalize hU:World.setCells _ XA 0 _=u2 at *;clear hU;refine hK.out _ _ HS2.out (fun _=>?_);clear hK K;clear HS1 HAA1;refine Tq 12 HS2.out ?_;simp only[Act.put,Ly];refine wpAnyH_done (by kernel_rfl) ?_ _;go_simp;have hA:=HAA2.out;clear HAA2;have hB:=HS2.out;clear HS2;generalize u2=v1 at hB hA  ⊢;refine Zby (by assumption) ?_;have HB1:=Zab (Zac HBW.out hB);clear hA hB HAXr HHDr;go_wp2_with fail;go_ret;exact⟨rfl,HB1.out⟩
section
variable {zz : World} {Ba Bs Bi Bb : Nat} {S : FS} {C : CR} {i : Nat} {L : List Sv}
theorem sc1_any(h:Blk 41 zz Bs (stL S)):Calls prog 118 #[.pointer (some (Ad Bs 0))] zz fun e w'=>e=.returned (errV (clE S.n))∧Below zz.heap.size zz w':=by
 have c:=(h.cell (show(stL S)[29]?=some (Vi S.n) from rfl)).1;have hc:=checkLaw_any S.n;clear h;generalize clE S.n=ce at*
 go_enter func118,ntmps118
 go_wp2_with (go_at_call 119;refine Sb (hc _) fun w1 hb=>?_);go_ret;exact⟨rfl,hb⟩
theorem infoB7':(prog.info? 33).map (·.size)=some 7:=by kernel_rfl
theorem sc2_any(k:Bk)(h:Blk 33 zz Bb (bkL k)):Calls prog 120 #[.pointer (some (Ad Bb 0))] zz fun e w'=>e=.returned (errV (Zcf k.b k.l))∧Below zz.heap.size zz w':=by
 have HR:=Zab h.range;have hc:=Zjc k.b k.o k.l;clear h;generalize Zcf k.b k.l=ce at*
 go_enter func120,ntmps120
 go_wp2_with (first
  |(refine Lq 33 _ rfl ?_;refine wpList_load_mid rfl 33 (.tmp 0) rfl Bb 0 rfl (bkL k) _ HR.out underlying33 rfl infoB7' ?_)
  |(go_at_call 121;refine Sb (hc _) fun w1 hb=>?_))
 go_ret;exact⟨rfl,hb⟩
theorem sc3_any(hi:i<2)(ha:Blk 26 zz Ba [Vi (C.a i 0),Vi (C.a i 1),Vi (C.a i 2),Vi (C.a i 3),Vi (C.a i 4),Vi (C.a i 5),Vi (C.a i 6),Vi (C.a i 7),Vi (C.a i 8),Vi (C.a i 9),Vi (C.a i 10),Vi (C.a i 11),.slice (C.p i) (C.al i).length (C.cn i),.slice (C.q i) (C.zl i).length (C.cm i),Vi (C.a i 14)])(hs:Blk 41 zz Bs (stL S))(hx:Blk 3 zz Bi [Vi (i:Int)])(hn:S.sn i=L.length)(hl:L.length≤9)(hv:VLs zz (S.sp i) L):
 Calls prog 122 #[.pointer (some (Ad Ba 0)),.pointer (some (Ad Bs 0)),.pointer (some (Ad Bi 0))] zz fun e w'=>e=.returned (errV (csE C i L))∧Below zz.heap.size zz w':=by
 have hix:=(hx.cell (j:=0) rfl).1;have hsv:=(hs.cell (Zdq S hi)).1;rw[hn] at hsv;have HAXr:=Zab ha.range;have hcs:=fun v (h:Below zz.heap.size zz v)=>checkServos_any C i L (S.sp i) (S.sc i) hl v (hv.later h)
 have i0:(0:Int)≤(i:Int):=by omega
 have i1:(i:Int)<2:=by omega
 clear ha hs hx hv;generalize csE C i L=ce at*
 go_enter func122,ntmps122
 go_upto_region 1 with fail;refine Cs [4,5,6,7,8,9,3] ?_;refine Cl (x:=.tmp 0) 0 4 [] (fun y w _ u hSw=>⟨Zae HAXr.out hSw,rfl⟩) underlying26 Zav ?_;refine Cq (fun _ h=>cell_later h hix) 1 5 [] ?_;refine Cp 2 6 [] ?_;refine Cp 3 7 [2,1] ?_;refine Cq (fun _ h=>cell_later h hsv) 4 8 [3] ?_;refine Cc 5 9 [0,4] (fun y w h _=>hcs _ h) ?_;refine Cp 6 3 [5] ?_;refine Ce (fun y u1 hB hf=>?_);have HS1:=Zab hB;clear hB hf;go_simp;have hB:=HS1.out;clear HS1;generalize u1=v1 at hB   ⊢;refine Zby (by assumption) ?_;go_wp2_with fail;go_ret;exact⟨rfl,hB⟩
theorem sc4_any(hi:i<2)(ha:Blk 26 zz Ba [Vi (C.a i 0),Vi (C.a i 1),Vi (C.a i 2),Vi (C.a i 3),Vi (C.a i 4),Vi (C.a i 5),Vi (C.a i 6),Vi (C.a i 7),Vi (C.a i 8),Vi (C.a i 9),Vi (C.a i 10),Vi (C.a i 11),.slice (C.p i) (C.al i).length (C.cn i),.slice (C.q i) (C.zl i).length (C.cm i),Vi (C.a i 14)])(hs:Blk 41 zz Bs (stL S))(hx:Blk 3 zz Bi [Vi (i:Int)])(hc:AxC zz C i):
 Calls prog 124 #[.pointer (some (Ad Ba 0)),.pointer (some (Ad Bs 0)),.pointer (some (Ad Bi 0))] zz fun e w'=>e=.returned (errV (chE C i (S.hd i)))∧Below zz.heap.size zz w':=by
 have hix:=(hx.cell (j:=0) rfl).1;have HHDr:=Zab (hs.sub (23+i*3) 3);rw[st_hold S hi] at HHDr;have HAXr:=Zab ha.range;have hch:=fun v (h:Below zz.heap.size zz v)=>checkHold_any C i (S.hd i) v (hc.later h)
 have i0:(0:Int)≤(i:Int):=by omega
 have i1:(i:Int)<2:=by omega
 clear ha hs hx hc;generalize chE C i (S.hd i)=ce at*
 unfold hdL at HHDr
 generalize (S.hd i).1=h0 at *;generalize (S.hd i).2.1=h1 at *;generalize (S.hd i).2.2=h2 at*
 go_enter func124,ntmps124
 go_upto_region 1 with fail;refine Cs [4,5,6,7,8,9,3] ?_;refine Cl (x:=.tmp 0) 0 4 [] (fun y w _ u hSw=>⟨Zae HAXr.out hSw,rfl⟩) underlying26 Zav ?_;refine Cq (fun _ h=>cell_later h hix) 1 5 [] ?_;refine Cp 2 6 [] ?_;refine Cp 3 7 [2,1] ?_;refine Cl (x:=.tmp 7) 4 8 [3] (fun y w hF u hSw=>⟨Zae HHDr.out hSw,hF.1⟩) underlying38 Zcj ?_;refine Cc 5 9 [0,4] (fun y w h _=>hch _ h) ?_;refine Cp 6 3 [5] ?_;refine Ce (fun y u1 hB hf=>?_);have HS1:=Zab hB;clear hB hf;go_simp;have hB:=HS1.out;clear HS1;generalize u1=v1 at hB   ⊢;refine Zby (by assumption) ?_;go_wp2_with fail;go_ret;exact⟨rfl,hB⟩
end
end Go.Proofs.YtnfdfiholcelaaaGreatDoor
