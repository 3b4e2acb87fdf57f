
import Derived.Test.YtnfdfiholcelaaaGreatDoorJp11
set_option maxRecDepth 100000
set_option maxHeartbeats 20000000
namespace Go.Proofs.YtnfdfiholcelaaaGreatDoor
open Go.RowKit Plain Tryz
theorem told_ok(L H U B M:Int)(a z:Option Addr)(ca cz:Nat)(al zl:List Int)(A D W k p v n q:Int)(want got:Int)(hm:al.length≤9223372036854775807)(hn:zl.length≤9223372036854775807)(hca:al.length≤ca)(h0:hoE L H U B M al zl A D W k n q=0)(w:World)(ha:Lst w a al)(hz:Lst w z zl):
 Calls prog 173 #[.agg (Qar L H U B M a z al zl ca cz),.agg #[Vi A,Vi D,Vi W],.agg #[Vi k,Vi p,Vi v,Vi n,Vi q],Vi want,Vi got] w (Rt w (.tuple #[.agg #[Vi A,Vi (toD B M A D p n want got),Vi W],.nilIface])):=by
 have hck:=fun u (h:Bw w u)=>Ml L H U B M a z ca cz al zl A D W k p v n q hm hn hca u (ha.later h) (hz.later h);have HX:=Za (HW.new w L H U B M a z al.length zl.length ca cz A D W k p v n q);simp only[h0,Z2] at hck;obtain⟨e1,e2,e3⟩:=Wh h0;obtain⟨e4,e5,e6,_⟩:=X8 e1;obtain⟨⟨l0,l1⟩,⟨u0,u1⟩,_,_,m0,m1⟩:=X7 e4;obtain⟨⟨a0,a1⟩,⟨d0,d1⟩,_,_⟩:=Up e2;clear h0 e1 e2 e3 e4 e6 ha hz
 unfold toD
 by_cases hn:n=0
 · by_cases hg:got=want
   · rw[if_pos ⟨hn,hg⟩]
     have hg':(got==want)=true:=by simpa using hg
     have hn':(n==0)=true:=by simpa using hn
     clear hg hn;have hpl:=holdPull_ex A p B (by omega) (by omega);have ppb:=Un B A p;generalize Y5 B A p=pp at *;obtain⟨pp0,pp1⟩:=ppb;have hm2:=clipMove_ex L H U B M a z al.length zl.length ca cz (D+pp) m0 m1;generalize Ze (D+pp) (-M) M=y at *;have v2:=Wr (D+pp)
     go_enter func173,ntmps173
     go_upto_region 5 with(go_at_call 215;refine Sb (hck _ HX.out.2.2.2.2.2.2) fun w1 hb=>?_;have HX:=Za (HX.out.later hb);obtain⟨⟨q0,q1,q2,q3,q4,q5,q6⟩,⟨s0,s1,s2⟩,⟨r0,r1,r2,r3,r4⟩,⟨p0,p1,p2⟩,⟨g0,g1,g2⟩,⟨f0,f1,f2⟩,hB⟩:=HX.out;clear hB hb);have hB:=HX.out.2.2.2.2.2.2;have Z:=Za (show(Kc w1 w.heap.size 0 (Vi L)∧Kc w1 w.heap.size 1 (Vi H)∧Kc w1 w.heap.size 2 (Vi U)∧Kc w1 w.heap.size 3 (Vi B)∧Kc w1 w.heap.size 4 (Vi M)∧Kc w1 w.heap.size 5 (.slice a al.length ca)∧Kc w1 w.heap.size 6 (.slice z zl.length cz))∧(Kc w1 (w.heap.size+1) 0 (Vi A)∧Kc w1 (w.heap.size+1+1) 1 (Vi p))∧Bw w w1 from⟨⟨q0,q1,q2,q3,q4,q5,q6⟩,⟨s0,r1⟩,hB⟩);have x1:=Zk (Zb w1 (.cells (Qar L H U B M a z al zl ca cz) 107)) s1;have x2:=Yq (Zb w1 (.cells (Qar L H U B M a z al zl ca cz) 107)) s1 g1;clear hB;apply htwice
     · intro hk;refine wp_region_held_drew (S:=fun u=>(Kc u w.heap.size 0 (Vi L)∧Kc u w.heap.size 1 (Vi H)∧Kc u w.heap.size 2 (Vi U)∧Kc u w.heap.size 3 (Vi B)∧Kc u w.heap.size 4 (Vi M)∧Kc u w.heap.size 5 (.slice a al.length ca)∧Kc u w.heap.size 6 (.slice z zl.length cz))∧(Kc u (w.heap.size+1) 0 (Vi A)∧Kc u (w.heap.size+1+1) 1 (Vi p))∧Bw w u) (by kernel_rfl) (by first|exact Yb (Below.refl _ _).drew Z.out|(repeat (with_reducible first|exact Z.out|refine Yb (Below.refl _ _).drew ?_|refine Yb (Zb _ _) ?_|refine Wj ?_))) (fun hHeld=>?_);refine Tp 0 (by assumption) ?_;(try simp only[Act.put]);refine Tp 1 (by assumption) ?_;(try simp only[Act.put]);refine Tp 3 (by assumption) ?_;(try simp only[Act.put]);refine Tp 4 (by assumption) ?_;(try simp only[Act.put]);refine Tp 5 (by assumption) ?_;(try simp only[Act.put]);refine Tp 6 (by assumption) ?_;(try simp only[Act.put]);refine Tp 7 (by assumption) ?_;(try simp only[Act.put]);refine Tp 8 (by assumption) ?_;(try simp only[Act.put]);refine Rb 2 9 (fun K hK=>?_) (fun K hK=>?_)
       · go_simp;refine hK.out _ _ (by first|exact Yb (Below.refl _ _).drew Z.out|(repeat (with_reducible first|exact Z.out|refine Yb (Below.refl _ _).drew ?_|refine Yb (Zb _ _) ?_|refine Wj ?_))) (fun hHeld=>?_);clear hK K;refine Ra 9 (fun K hK=>?_);go_simp;refine Sm (hpl _) ?_;go_wp2_with fail;refine hK.out _ _ (by first|exact Yb (Below.refl _ _).drew Z.out|(repeat (with_reducible first|exact Z.out|refine Yb (Below.refl _ _).drew ?_|refine Yb (Zb _ _) ?_|refine Wj ?_))) (fun hHeld=>?_);clear hK K;refine Tp 10 (by assumption) ?_;(try simp only[Act.put]);refine Ra 11 (fun K hK=>?_);go_simp;refine Sm (hm2 _) ?_;go_wp2_with fail;refine hK.out _ _ (by first|exact Yb (Below.refl _ _).drew Z.out|(repeat (with_reducible first|exact Z.out|refine Yb (Below.refl _ _).drew ?_|refine Yb (Zb _ _) ?_|refine Wj ?_))) (fun hHeld=>?_);clear hK K;refine Tp 12 (by assumption) ?_;(try simp only[Act.put]);refine Ra 13 (fun K hK=>?_);go_simp;refine hK.out _ _ (by first|exact Yb (Below.refl _ _).drew Z.out|(repeat (with_reducible first|exact Z.out|refine Yb (Below.refl _ _).drew ?_|refine Yb (Zb _ _) ?_|refine Wj ?_))) (fun hHeld=>?_);clear hK K;refine Dn ?_;exact hk
       · go_simp;refine Sm (hpl _) ?_;go_wp2_with fail;refine hK.out _ _ (by first|exact Yb (Below.refl _ _).drew Z.out|(repeat (with_reducible first|exact Z.out|refine Yb (Below.refl _ _).drew ?_|refine Yb (Zb _ _) ?_|refine Wj ?_))) (fun hHeld=>?_);clear hK K;refine Ra 2 (fun K hK=>?_);go_simp;refine hK.out _ _ (by first|exact Yb (Below.refl _ _).drew Z.out|(repeat (with_reducible first|exact Z.out|refine Yb (Below.refl _ _).drew ?_|refine Yb (Zb _ _) ?_|refine Wj ?_))) (fun hHeld=>?_);clear hK K;refine Tp 10 (by assumption) ?_;(try simp only[Act.put]);refine Ra 11 (fun K hK=>?_);go_simp;refine Sm (hm2 _) ?_;go_wp2_with fail;refine hK.out _ _ (by first|exact Yb (Below.refl _ _).drew Z.out|(repeat (with_reducible first|exact Z.out|refine Yb (Below.refl _ _).drew ?_|refine Yb (Zb _ _) ?_|refine Wj ?_))) (fun hHeld=>?_);clear hK K;refine Tp 12 (by assumption) ?_;(try simp only[Act.put]);refine Ra 13 (fun K hK=>?_);go_simp;refine hK.out _ _ (by first|exact Yb (Below.refl _ _).drew Z.out|(repeat (with_reducible first|exact Z.out|refine Yb (Below.refl _ _).drew ?_|refine Yb (Zb _ _) ?_|refine Wj ?_))) (fun hHeld=>?_);clear hK K;refine Dn ?_;exact hk
     have Ha:=Za ((((HX.out.later (Zb _ (.cells (Qar L H U B M a z al zl ca cz) 107))).setD y).later (Below.refl _ _).drew).later (Below.refl _ _).drew);generalize hw3:World.drew (World.drew (World.setCell _ _ (Vi y)))=w3 at *;clear hw3 HX Z q0 q1 q2 q3 q4 q5 q6 s0 s1 s2 r0 r1 r2 r3 r4 p0 p1 p2 g0 g1 g2 f0 f1 f2 x1 x2;obtain⟨⟨q0,q1,q2,q3,q4,q5,q6⟩,⟨s0,s1,s2⟩,⟨r0,r1,r2,r3,r4⟩,⟨p0,p1,p2⟩,⟨g0,g1,g2⟩,⟨f0,f1,f2⟩,hB⟩:=Ha.out;go_wp2_with fail;refine bodyPost_ret (v:=.tuple #[.agg #[Vi A,Vi y,Vi W],.nilIface]) ?_ rfl ⟨rfl,((hB.setCell (by simp;omega) _).setCell (by simp;omega) _).setCell (by simp;omega) _⟩
     simp[results,results173,go_sem,p0,p1,p2]
   · rw[if_neg (fun h=>hg h.2)]
     have hg':(got==want)=false:=by simpa using hg
     have hn':(n==0)=true:=by simpa using hn
     clear hg hn
     go_enter func173,ntmps173
     go_wp2_with (go_at_call 215;refine Sb (hck _ HX.out.2.2.2.2.2.2) fun w1 hb=>?_;have HX:=Za (HX.out.later hb);obtain⟨⟨q0,q1,q2,q3,q4,q5,q6⟩,⟨s0,s1,s2⟩,⟨r0,r1,r2,r3,r4⟩,⟨p0,p1,p2⟩,⟨g0,g1,g2⟩,⟨f0,f1,f2⟩,hB⟩:=HX.out;clear hB hb);exact bodyPost_ret (v:=.tuple #[.agg #[Vi A,Vi D,Vi W],.nilIface]) (by simp[results,results173,go_sem,p0,p1,p2]) rfl ⟨rfl,((HX.out.2.2.2.2.2.2.setCell (by simp;omega) _).setCell (by simp;omega) _).setCell (by simp;omega) _⟩
 · rw[if_neg (fun h=>hn h.1)]
   have hn':(n==0)=false:=by simpa using hn
   clear hn
   go_enter func173,ntmps173
   go_wp2_with (go_at_call 215;refine Sb (hck _ HX.out.2.2.2.2.2.2) fun w1 hb=>?_;have HX:=Za (HX.out.later hb);obtain⟨⟨q0,q1,q2,q3,q4,q5,q6⟩,⟨s0,s1,s2⟩,⟨r0,r1,r2,r3,r4⟩,⟨p0,p1,p2⟩,⟨g0,g1,g2⟩,⟨f0,f1,f2⟩,hB⟩:=HX.out;clear hB hb);exact bodyPost_ret (v:=.tuple #[.agg #[Vi A,Vi D,Vi W],.nilIface]) (by simp[results,results173,go_sem,p0,p1,p2]) rfl ⟨rfl,((HX.out.2.2.2.2.2.2.setCell (by simp;omega) _).setCell (by simp;omega) _).setCell (by simp;omega) _⟩
theorem want_err(L H U B M:Int)(a z:Option Addr)(ca cz:Nat)(al zl:List Int)(A D W k p v n q:Int)(hm:al.length≤9223372036854775807)(hn:zl.length≤9223372036854775807)(hca:al.length≤ca)(h0:hoE L H U B M al zl A D W k n q≠0)(w:World)(ha:Lst w a al)(hz:Lst w z zl):
 Calls prog 167 #[.agg (Qar L H U B M a z al zl ca cz),.agg #[Vi A,Vi D,Vi W],.agg #[Vi k,Vi p,Vi v,Vi n,Vi q]] w (Rt w (.tuple #[Vi 0,.agg #[Vi 0,Vi 0,Vi 0],.iface 44 (Vi (hoE L H U B M al zl A D W k n q))])):=by
 have hck:=fun u (h:Bw w u)=>Ml L H U B M a z ca cz al zl A D W k p v n q hm hn hca u (ha.later h) (hz.later h);have HX:=Za (HW.new w L H U B M a z al.length zl.length ca cz A D W k p v n q);simp only[Z4 h0] at hck;clear h0 ha hz;generalize hoE L H U B M al zl A D W k n q=E at*
 go_enter func167,ntmps167
 go_wp2_with (go_at_call 215;refine Sb (hck _ HX.out.2.2.2.2.2.2) fun w1 hb=>?_;have HX:=Za (HX.out.later hb);obtain⟨⟨q0,q1,q2,q3,q4,q5,q6⟩,⟨s0,s1,s2⟩,⟨r0,r1,r2,r3,r4⟩,⟨p0,p1,p2⟩,⟨g0,g1,g2⟩,⟨f0,f1,f2⟩,hB⟩:=HX.out;clear hB hb);exact bodyPost_ret (v:=.tuple #[Vi 0,.agg #[Vi 0,Vi 0,Vi 0],.iface 44 (Vi E)]) (by simp[results,results167,go_sem,p0,p1,p2]) rfl ⟨rfl,((HX.out.2.2.2.2.2.2.setCell (by simp;omega) _).setCell (by simp;omega) _).setCell (by simp;omega) _⟩
theorem want_ok(L H U B M:Int)(a z:Option Addr)(ca cz:Nat)(al zl:List Int)(A D W k p v n q:Int)(hm:al.length≤9223372036854775807)(hn:zl.length≤9223372036854775807)(hca:al.length≤ca)(h0:hoE L H U B M al zl A D W k n q=0)(w:World)(ha:Lst w a al)(hz:Lst w z zl):
 Calls prog 167 #[.agg (Qar L H U B M a z al zl ca cz),.agg #[Vi A,Vi D,Vi W],.agg #[Vi k,Vi p,Vi v,Vi n,Vi q]] w (Rt w (.tuple #[Vi (wX L H U M al zl A D W k p v n q),.agg #[Vi (wA L H U A W k p n),Vi (wD L H U M al zl A D W k p v n q),Vi n],.nilIface])):=by
 have hck:=fun u (h:Bw w u)=>Ml L H U B M a z ca cz al zl A D W k p v n q hm hn hca u (ha.later h) (hz.later h);have HX:=Za (HW.new w L H U B M a z al.length zl.length ca cz A D W k p v n q);simp only[h0,Z2] at hck;obtain⟨e1,e2,e3⟩:=Wh h0;obtain⟨e4,e5,e6,_⟩:=X8 e1;obtain⟨_,_,_,_,m0,m1⟩:=X7 e4;obtain⟨⟨k0,k1⟩,⟨n0,n3'⟩,_,_⟩:=asB_true e3;have hgd:=Md n
 by_cases n1:n≤1
 · unfold wX wA wD;rw[if_pos n1,if_pos n1,if_pos n1]
   rw[show betw n 0 1=true from Y7 n0 n1] at hgd;have hst:=fun u (h:Bw w u)=>steer_ok L H U B M a z ca cz al zl A D W k p v n q hca h0 u (ha.later h) (hz.later h);clear h0 e1 e2 e3 e4 e6 ha hz;generalize wtI L H U M al zl A D W k p v n q=wt at *;generalize a2I L H U A W k p n=wa at *;generalize d2I L H U M al zl A D W k p v n q=wd at*
   go_enter func167,ntmps167
   go_wp2_with (first
    |(go_at_call 215;refine Sb (hck _ HX.out.2.2.2.2.2.2) fun w1 hb=>?_;have HX:=Za (HX.out.later hb);obtain⟨⟨q0,q1,q2,q3,q4,q5,q6⟩,⟨s0,s1,s2⟩,⟨r0,r1,r2,r3,r4⟩,⟨p0,p1,p2⟩,⟨g0,g1,g2⟩,⟨f0,f1,f2⟩,hB⟩:=HX.out;clear hB hb)
    |(go_at_call 216;refine Sm (hgd _) ?_)
    |(go_at_call 217;refine Sb (hst _ HX.out.2.2.2.2.2.2) fun w2 hb=>?_;have HX:=Za (HX.out.later hb);obtain⟨⟨q0,q1,q2,q3,q4,q5,q6⟩,⟨s0,s1,s2⟩,⟨r0,r1,r2,r3,r4⟩,⟨p0,p1,p2⟩,⟨g0,g1,g2⟩,⟨f0,f1,f2⟩,hB⟩:=HX.out;clear hB hb))
   exact bodyPost_ret (v:=.tuple #[Vi wt,.agg #[Vi wa,Vi wd,Vi n],.nilIface]) (by simp[results,results167,go_sem,p0,p1,p2]) rfl ⟨rfl,((HX.out.2.2.2.2.2.2.setCell (by simp;omega) _).setCell (by simp;omega) _).setCell (by simp;omega) _⟩
 · unfold wX wA wD;rw[if_neg n1,if_neg n1,if_neg n1]
   rw[show betw n 0 1=false by unfold betw;simp;omega] at hgd;have hhu:=holdHun_any k M k0 k1 (by omega) (by omega);clear h0 e1 e2 e3 e4 e6 ha hz;have GD:True:=trivial
   by_cases n2:n=2
   · rw[if_pos n2];subst n2;generalize hunI k M=hu at*
     go_enter func167,ntmps167
     go_upto_region 8 with(first
      |(go_at_call 215;refine Sb (hck _ HX.out.2.2.2.2.2.2) fun w1 hb=>?_;have HX:=Za (HX.out.later hb);obtain⟨⟨q0,q1,q2,q3,q4,q5,q6⟩,⟨s0,s1,s2⟩,⟨r0,r1,r2,r3,r4⟩,⟨p0,p1,p2⟩,⟨g0,g1,g2⟩,⟨f0,f1,f2⟩,hB⟩:=HX.out;clear hB hb)
      |(go_at_call 216;refine Sm (hgd _) ?_))
     have Ha:=Za (HX.out.setW 2);clear HX;generalize hw2:World.setCell _ _ (Vi _)=w2 at *;clear hw2 q0 q1 q2 q3 q4 q5 q6 s0 s1 s2 r0 r1 r2 r3 r4 p0 p1 p2 g0 g1 g2 f0 f1 f2;obtain⟨⟨q0,q1,q2,q3,q4,q5,q6⟩,⟨s0,s1,s2⟩,⟨r0,r1,r2,r3,r4⟩,⟨p0,p1,p2⟩,⟨g0,g1,g2⟩,⟨f0,f1,f2⟩,hB⟩:=Ha.out;have Z:=Za (show(Kc w2 w.heap.size 4 (Vi M)∧Kc w2 (w.heap.size+1+1) 0 (Vi k))∧(Kc w2 (w.heap.size+1) 0 (Vi A)∧Kc w2 (w.heap.size+1) 1 (Vi D)∧Kc w2 (w.heap.size+1) 2 (Vi 2))∧Bw w w2 from⟨⟨q4,r0⟩,⟨s0,s1,s2⟩,hB⟩);clear hB q0 q1 q2 q3 q4 q5 q6 s0 s1 s2 r0 r1 r2 r3 r4 g0 g1 g2
     go_region_held3 (fun u=>(Kc u w.heap.size 4 (Vi M)∧Kc u (w.heap.size+1+1) 0 (Vi k))∧(Kc u (w.heap.size+1) 0 (Vi A)∧Kc u (w.heap.size+1) 1 (Vi D)∧Kc u (w.heap.size+1) 2 (Vi 2))∧Bw w u)
      (first
       |(with_reducible assumption)
       |(with_reducible apply keepS2;with_reducible assumption;with_reducible assumption)
       |((repeat (with_reducible first|exact Z.out|assumption|refine keepS2 (Below.refl _ _).drew ?_|refine keepS2s ?_));done))
      (first
       |(go_at_call 218;refine Sm (hhu _) ?_))
     all_goals
      rename_i hH
      have HB:=Za hH.2.2;clear hH;go_wp2_with fail;refine bodyPost_ret (v:=.tuple #[Vi hu,.agg #[Vi A,Vi D,Vi 2],.nilIface]) ?_ rfl ⟨rfl,HB.out⟩
      simp[results,results167,go_sem,p0,p1,p2]
   · rw[if_neg n2]
     obtain rfl:n=3:=by omega
     clear n1 n2 n0 n3' hhu
     go_enter func167,ntmps167
     go_upto_region 9 with(first
      |(go_at_call 215;refine Sb (hck _ HX.out.2.2.2.2.2.2) fun w1 hb=>?_;have HX:=Za (HX.out.later hb);obtain⟨⟨q0,q1,q2,q3,q4,q5,q6⟩,⟨s0,s1,s2⟩,⟨r0,r1,r2,r3,r4⟩,⟨p0,p1,p2⟩,⟨g0,g1,g2⟩,⟨f0,f1,f2⟩,hB⟩:=HX.out;clear hB hb)
      |(go_at_call 216;refine Sm (hgd _) ?_))
     have Ha:=Za (HX.out.setW 3);clear HX;generalize hw2:World.setCell _ _ (Vi _)=w2 at *;clear hw2 q0 q1 q2 q3 q4 q5 q6 s0 s1 s2 r0 r1 r2 r3 r4 p0 p1 p2 g0 g1 g2 f0 f1 f2;obtain⟨⟨q0,q1,q2,q3,q4,q5,q6⟩,⟨s0,s1,s2⟩,⟨r0,r1,r2,r3,r4⟩,⟨p0,p1,p2⟩,⟨g0,g1,g2⟩,⟨f0,f1,f2⟩,hB⟩:=Ha.out;have Z:=Za (show(Kc w2 w.heap.size 4 (Vi M)∧Kc w2 (w.heap.size+1+1) 0 (Vi k))∧(Kc w2 (w.heap.size+1) 0 (Vi A)∧Kc w2 (w.heap.size+1) 1 (Vi D)∧Kc w2 (w.heap.size+1) 2 (Vi 3))∧Bw w w2 from⟨⟨q4,r0⟩,⟨s0,s1,s2⟩,hB⟩);clear hB q0 q1 q2 q3 q4 q5 q6 s0 s1 s2 r0 r1 r2 r3 r4 g0 g1 g2
     go_region_held3 (fun u=>(Kc u w.heap.size 4 (Vi M)∧Kc u (w.heap.size+1+1) 0 (Vi k))∧(Kc u (w.heap.size+1) 0 (Vi A)∧Kc u (w.heap.size+1) 1 (Vi D)∧Kc u (w.heap.size+1) 2 (Vi 3))∧Bw w u)
      (first
       |(with_reducible assumption)
       |(with_reducible apply keepS2;with_reducible assumption;with_reducible assumption)
       |((repeat (with_reducible first|exact Z.out|assumption|refine keepS2 (Below.refl _ _).drew ?_|refine keepS2s ?_));done))
      (fail)
     all_goals
      rename_i hH
      have HB:=Za hH.2.2;clear hH;go_wp2_with fail;refine bodyPost_ret (v:=.tuple #[Vi 0,.agg #[Vi A,Vi D,Vi 3],.nilIface]) ?_ rfl ⟨rfl,HB.out⟩
      simp[results,results167,go_sem,p0,p1,p2]
end Go.Proofs.YtnfdfiholcelaaaGreatDoor
