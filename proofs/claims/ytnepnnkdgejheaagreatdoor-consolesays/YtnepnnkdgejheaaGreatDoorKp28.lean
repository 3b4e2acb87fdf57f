
import Derived.Test.YtnepnnkdgejheaaGreatDoorKp07
set_option maxRecDepth 100000
set_option maxHeartbeats 20000000
namespace Go.Proofs.YtnepnnkdgejheaaGreatDoor
open Go.RowKit Plain Tryz
theorem Jl1(L H U B M:Int)(a z:V8)(e X:Nat)(al zl:V9)(A D W k p v n q:Int)(want got:Int)(hm:al.length<=9223372036854775807)(hn:zl.length<=9223372036854775807)(hf:al.length<=e)(h0:hoE L H U B M al zl A D W k n q=0)(w:V6)(ha:Lst w a al)(hz:Lst w z zl):
 Va 293 #[.agg (Qas L H U B M a z al zl e X),.agg #[Vi A,Vi D,Vi W],.agg #[Vi k,Vi p,Vi v,Vi n,Vi q],Vi want,Vi got] w (Rt w (.tuple #[.agg #[Vi A,Vi (toD B M A D p n want got),Vi W],.nilIface])):=by
 have hc:=fun u (h:Bw w u)=>Eg L H U B M a z e X al zl A D W k p v n q hm hn hf u (ha.lq h) (hz.lq h);have j:=Za (HW.new w L H U B M a z al.length zl.length e X A D W k p v n q);simp only[h0,Z0] at hc;obtain⟨e1,e2,e3⟩:=Wz h0;obtain⟨e4,e5,e6,_⟩:=Wl e1;obtain⟨⟨l0,l1⟩,⟨u0,u1⟩,_,_,m0,m1⟩:=Wk e4;obtain⟨⟨a0,a1⟩,⟨d0,d1⟩,_,_⟩:=Nl e2;clear h0 e1 e2 e3 e4 e6 ha hz
 unfold toD
 by_cases hn:n=0
 . by_cases J:got=want
   . rw[if_pos ⟨hn,J⟩]
     have hg':(got==want)=true:=by simpa using J
     have hn':(n==0)=true:=by simpa using hn
     clear J hn;have hd:=TY A p B (by omega) (by omega);have ppb:=Na B A p;generalize Y8 B A p=pp at *;obtain⟨pp0,pp1⟩:=ppb;have he:=TX L H U B M a z al.length zl.length e X (D+pp) m0 m1;generalize Ze (D+pp) (-M) M=y at *;have v2:=Wr (D+pp)
     go_enter func293,ntmps293
     go_upto_region 5 with(go_at_call 319;refine Sb (hc _ j.o.2.2.2.2.2.2) fun m Q=>?_;have j:=Za (j.o.lq Q);obtain⟨⟨q0,P,C,E,q4,F,I⟩,⟨O,N,s2⟩,⟨r0,r1,r2,r3,r4⟩,⟨G,R,T⟩,⟨g0,g1,g2⟩,⟨f0,f1,f2⟩,Y⟩:=j.o;clear Y Q);have Y:=j.o.2.2.2.2.2.2;have Z:=Za (show(V0 m w 0 L/\V0 m w 1 H/\V0 m w 2 U/\V0 m w 3 B/\V0 m w 4 M/\V1 m w 5 (.slice a al.length e)/\V1 m w 6 (.slice z zl.length X))/\(V3 m w 0 A/\V4 m w 1 p)/\Bw w m from⟨⟨q0,P,C,E,q4,F,I⟩,⟨O,r1⟩,Y⟩);have x1:=Zl (Zb m (.cells (Qas L H U B M a z al zl e X) 224)) N;have x2:=Yw (Zb m (.cells (Qas L H U B M a z al zl e X) 224)) N g1;clear Y;apply PA
     . intro hk;refine wp_region_held_drew (S:=fun u=>(V0 u w 0 L/\V0 u w 1 H/\V0 u w 2 U/\V0 u w 3 B/\V0 u w 4 M/\V1 u w 5 (.slice a al.length e)/\V1 u w 6 (.slice z zl.length X))/\(V3 u w 0 A/\V4 u w 1 p)/\Bw w u) (by kernel_rfl) (by first|exact Ye Vb Z.o|(repeat (with_reducible first|exact Z.o|refine Ye Vb ?_|refine Ye Vc ?_|refine W5 ?_))) (fun hHeld=>?_);refine Tp 0 ?_;(try simp only[Act.put]);refine Tp 1 ?_;(try simp only[Act.put]);refine Tp 3 ?_;(try simp only[Act.put]);refine Tp 4 ?_;(try simp only[Act.put]);refine Tp 5 ?_;(try simp only[Act.put]);refine Tp 6 ?_;(try simp only[Act.put]);refine Tp 7 ?_;(try simp only[Act.put]);refine Tp 8 ?_;(try simp only[Act.put]);refine Rb 2 9 (fun K hK=>?_) (fun K hK=>?_)
       . go_simp;refine hK.out _ _ (by first|exact Ye Vb Z.o|(repeat (with_reducible first|exact Z.o|refine Ye Vb ?_|refine Ye Vc ?_|refine W5 ?_))) (fun hHeld=>?_);clear hK K;refine Ra 9 (fun K hK=>?_);go_simp;refine Sm (hd _) ?_;go_wp2_with fail;refine hK.out _ _ (by first|exact Ye Vb Z.o|(repeat (with_reducible first|exact Z.o|refine Ye Vb ?_|refine Ye Vc ?_|refine W5 ?_))) (fun hHeld=>?_);clear hK K;refine Tp 10 ?_;(try simp only[Act.put]);refine Ra 11 (fun K hK=>?_);go_simp;refine Sm (he _) ?_;go_wp2_with fail;refine hK.out _ _ (by first|exact Ye Vb Z.o|(repeat (with_reducible first|exact Z.o|refine Ye Vb ?_|refine Ye Vc ?_|refine W5 ?_))) (fun hHeld=>?_);clear hK K;refine Tp 12 ?_;(try simp only[Act.put]);refine Ra 13 (fun K hK=>?_);go_simp;refine hK.out _ _ (by first|exact Ye Vb Z.o|(repeat (with_reducible first|exact Z.o|refine Ye Vb ?_|refine Ye Vc ?_|refine W5 ?_))) (fun hHeld=>?_);clear hK K;refine Dn ?_;exact hk
       . go_simp;refine Sm (hd _) ?_;go_wp2_with fail;refine hK.out _ _ (by first|exact Ye Vb Z.o|(repeat (with_reducible first|exact Z.o|refine Ye Vb ?_|refine Ye Vc ?_|refine W5 ?_))) (fun hHeld=>?_);clear hK K;refine Ra 2 (fun K hK=>?_);go_simp;refine hK.out _ _ (by first|exact Ye Vb Z.o|(repeat (with_reducible first|exact Z.o|refine Ye Vb ?_|refine Ye Vc ?_|refine W5 ?_))) (fun hHeld=>?_);clear hK K;refine Tp 10 ?_;(try simp only[Act.put]);refine Ra 11 (fun K hK=>?_);go_simp;refine Sm (he _) ?_;go_wp2_with fail;refine hK.out _ _ (by first|exact Ye Vb Z.o|(repeat (with_reducible first|exact Z.o|refine Ye Vb ?_|refine Ye Vc ?_|refine W5 ?_))) (fun hHeld=>?_);clear hK K;refine Tp 12 ?_;(try simp only[Act.put]);refine Ra 13 (fun K hK=>?_);go_simp;refine hK.out _ _ (by first|exact Ye Vb Z.o|(repeat (with_reducible first|exact Z.o|refine Ye Vb ?_|refine Ye Vc ?_|refine W5 ?_))) (fun hHeld=>?_);clear hK K;refine Dn ?_;exact hk
     have Ha:=Za ((((j.o.lq (Zb _ (.cells (Qas L H U B M a z al zl e X) 224))).setD y).lq Vb).lq Vb);generalize hh:World.drew (World.drew (World.setCell _ _ (Vi y)))=w3 at *;clear hh j Z q0 P C E q4 F I O N s2 r0 r1 r2 r3 r4 G R T g0 g1 g2 f0 f1 f2 x1 x2;obtain⟨⟨q0,P,C,E,q4,F,I⟩,⟨O,N,s2⟩,⟨r0,r1,r2,r3,r4⟩,⟨G,R,T⟩,⟨g0,g1,g2⟩,⟨f0,f1,f2⟩,Y⟩:=Ha.o;go_wp2_with fail;refine bodyPost_ret (v:=.tuple #[.agg #[Vi A,Vi y,Vi W],.nilIface]) ?_ rfl ⟨rfl,((Y.setCell (by simp;omega) _).setCell (by simp;omega) _).setCell (by simp;omega) _⟩
     simp[results,results293,go_sem,G,R,T]
   . rw[if_neg (fun h=>J h.2)]
     have hg':(got==want)=false:=by simpa using J
     have hn':(n==0)=true:=by simpa using hn
     clear J hn
     go_enter func293,ntmps293
     go_wp2_with (go_at_call 319;refine Sb (hc _ j.o.2.2.2.2.2.2) fun m Q=>?_;have j:=Za (j.o.lq Q);obtain⟨⟨q0,P,C,E,q4,F,I⟩,⟨O,N,s2⟩,⟨r0,r1,r2,r3,r4⟩,⟨G,R,T⟩,⟨g0,g1,g2⟩,⟨f0,f1,f2⟩,Y⟩:=j.o;clear Y Q);exact bodyPost_ret (v:=.tuple #[.agg #[Vi A,Vi D,Vi W],.nilIface]) (by simp[results,results293,go_sem,G,R,T]) rfl ⟨rfl,((j.o.2.2.2.2.2.2.setCell (by simp;omega) _).setCell (by simp;omega) _).setCell (by simp;omega) _⟩
 . rw[if_neg (fun h=>hn h.1)]
   have hn':(n==0)=false:=by simpa using hn
   clear hn
   go_enter func293,ntmps293
   go_wp2_with (go_at_call 319;refine Sb (hc _ j.o.2.2.2.2.2.2) fun m Q=>?_;have j:=Za (j.o.lq Q);obtain⟨⟨q0,P,C,E,q4,F,I⟩,⟨O,N,s2⟩,⟨r0,r1,r2,r3,r4⟩,⟨G,R,T⟩,⟨g0,g1,g2⟩,⟨f0,f1,f2⟩,Y⟩:=j.o;clear Y Q);exact bodyPost_ret (v:=.tuple #[.agg #[Vi A,Vi D,Vi W],.nilIface]) (by simp[results,results293,go_sem,G,R,T]) rfl ⟨rfl,((j.o.2.2.2.2.2.2.setCell (by simp;omega) _).setCell (by simp;omega) _).setCell (by simp;omega) _⟩
theorem Jhv(L H U B M:Int)(a z:V8)(j m:Nat)(al zl:V9)(A D W k p v n q:Int)(Y:al.length<=9223372036854775807)(hn:zl.length<=9223372036854775807)(hd:al.length<=j)(h0:hoE L H U B M al zl A D W k n q≠0)(w:V6)(ha:Lst w a al)(e:Lst w z zl):
 Va 290 #[.agg (Qas L H U B M a z al zl j m),.agg #[Vi A,Vi D,Vi W],.agg #[Vi k,Vi p,Vi v,Vi n,Vi q]] w (Rt w (.tuple #[Vi 0,.agg #[Vi 0,Vi 0,Vi 0],.iface 22 (Vi (hoE L H U B M al zl A D W k n q))])):=by
 have hc:=fun u (h:Bw w u)=>Eg L H U B M a z j m al zl A D W k p v n q Y hn hd u (ha.lq h) (e.lq h);have y:=Za (HW.new w L H U B M a z al.length zl.length j m A D W k p v n q);simp only[Zv h0] at hc;clear h0 ha e;generalize hoE L H U B M al zl A D W k n q=E at*
 go_enter func290,ntmps290
 go_wp2_with (go_at_call 319;refine Sb (hc _ y.o.2.2.2.2.2.2) fun T Z=>?_;have y:=Za (y.o.lq Z);obtain⟨⟨q0,J,K,N,q4,P,C⟩,⟨F,I,O⟩,⟨r0,r1,r2,r3,r4⟩,⟨X,Q,G⟩,⟨g0,g1,g2⟩,⟨f0,f1,f2⟩,R⟩:=y.o;clear R Z);exact bodyPost_ret (v:=.tuple #[Vi 0,.agg #[Vi 0,Vi 0,Vi 0],.iface 22 (Vi E)]) (by simp[results,results290,go_sem,X,Q,G]) rfl ⟨rfl,((y.o.2.2.2.2.2.2.setCell (by simp;omega) _).setCell (by simp;omega) _).setCell (by simp;omega) _⟩
theorem Jbh(L H U B M:Int)(a z:V8)(ca cz:Nat)(al zl:V9)(A D W k p v n q:Int)(hm:al.length<=9223372036854775807)(hn:zl.length<=9223372036854775807)(hf:al.length<=ca)(h0:hoE L H U B M al zl A D W k n q=0)(w:V6)(ha:Lst w a al)(hz:Lst w z zl):
 Va 290 #[.agg (Qas L H U B M a z al zl ca cz),.agg #[Vi A,Vi D,Vi W],.agg #[Vi k,Vi p,Vi v,Vi n,Vi q]] w (Rt w (.tuple #[Vi (wX L H U M al zl A D W k p v n q),.agg #[Vi (wA L H U A W k p n),Vi (wD L H U M al zl A D W k p v n q),Vi n],.nilIface])):=by
 have hd:=fun u (h:Bw w u)=>Eg L H U B M a z ca cz al zl A D W k p v n q hm hn hf u (ha.lq h) (hz.lq h);have y:=Za (HW.new w L H U B M a z al.length zl.length ca cz A D W k p v n q);simp only[h0,Z0] at hd;obtain⟨e1,e2,e3⟩:=Wz h0;obtain⟨e4,e5,e6,_⟩:=Wl e1;obtain⟨_,_,_,_,m0,m1⟩:=Wk e4;obtain⟨⟨k0,k1⟩,⟨n0,n3'⟩,_,_⟩:=E9 e3;have hc:=M5 n
 by_cases n1:n<=1
 . unfold wX wA wD;rw[if_pos n1,if_pos n1,if_pos n1]
   rw[show A1 n 0 1=true from Xs n0 n1] at hc;have hh:=fun u (h:Bw w u)=>Jht L H U B M a z ca cz al zl A D W k p v n q hf h0 u (ha.lq h) (hz.lq h);clear h0 e1 e2 e3 e4 e6 ha hz;generalize wtI L H U M al zl A D W k p v n q=wt at *;generalize a2I L H U A W k p n=wa at *;generalize d2I L H U M al zl A D W k p v n q=wd at*
   go_enter func290,ntmps290
   go_wp2_with (first
    |(go_at_call 319;refine Sb (hd _ y.o.2.2.2.2.2.2) fun w1 e=>?_;have y:=Za (y.o.lq e);obtain⟨⟨q0,J,K,N,q4,P,C⟩,⟨Y,X,Q⟩,⟨r0,r1,r2,r3,r4⟩,⟨G,R,T⟩,⟨g0,E,F⟩,⟨I,O,f2⟩,m⟩:=y.o;clear m e)
    |(go_at_call 320;refine Sm (hc _) ?_)
    |(go_at_call 321;refine Sb (hh _ y.o.2.2.2.2.2.2) fun j e=>?_;have y:=Za (y.o.lq e);obtain⟨⟨q0,J,K,N,q4,P,C⟩,⟨Y,X,Q⟩,⟨r0,r1,r2,r3,r4⟩,⟨G,R,T⟩,⟨g0,E,F⟩,⟨I,O,f2⟩,m⟩:=y.o;clear m e))
   exact bodyPost_ret (v:=.tuple #[Vi wt,.agg #[Vi wa,Vi wd,Vi n],.nilIface]) (by simp[results,results290,go_sem,G,R,T]) rfl ⟨rfl,((y.o.2.2.2.2.2.2.setCell (by simp;omega) _).setCell (by simp;omega) _).setCell (by simp;omega) _⟩
 . unfold wX wA wD;rw[if_neg n1,if_neg n1,if_neg n1]
   rw[show A1 n 0 1=false by unfold A1;simp;omega] at hc;have hg:=G8 k M k0 k1 (by omega) (by omega);clear h0 e1 e2 e3 e4 e6 ha hz;have GD:True:=trivial
   by_cases n2:n=2
   . rw[if_pos n2];subst n2;generalize CX k M=hu at*
     go_enter func290,ntmps290
     go_upto_region 8 with(first
      |(go_at_call 319;refine Sb (hd _ y.o.2.2.2.2.2.2) fun w1 e=>?_;have y:=Za (y.o.lq e);obtain⟨⟨q0,J,K,N,q4,P,C⟩,⟨Y,X,Q⟩,⟨r0,r1,r2,r3,r4⟩,⟨G,R,T⟩,⟨g0,E,F⟩,⟨I,O,f2⟩,m⟩:=y.o;clear m e)
      |(go_at_call 320;refine Sm (hc _) ?_))
     have Ha:=Za (y.o.setW 2);clear y;generalize he:World.setCell _ _ (Vi _)=j at *;clear he q0 J K N q4 P C Y X Q r0 r1 r2 r3 r4 G R T g0 E F I O f2;obtain⟨⟨q0,J,K,N,q4,P,C⟩,⟨Y,X,Q⟩,⟨r0,r1,r2,r3,r4⟩,⟨G,R,T⟩,⟨g0,E,F⟩,⟨I,O,f2⟩,m⟩:=Ha.o;have Z:=Za (show(V0 j w 4 M/\V4 j w 0 k)/\(V3 j w 0 A/\V3 j w 1 D/\V3 j w 2 2)/\Bw w j from⟨⟨q4,r0⟩,⟨Y,X,Q⟩,m⟩);clear m q0 J K N q4 P C Y X Q r0 r1 r2 r3 r4 g0 E F
     go_region_held3 (fun u=>(V0 u w 4 M/\V4 u w 0 k)/\(V3 u w 0 A/\V3 u w 1 D/\V3 u w 2 2)/\Bw w u)
      (first
       |(with_reducible assumption)
       |(with_reducible apply C8;with_reducible assumption;with_reducible assumption)
       |((repeat (with_reducible first|exact Z.o|assumption|refine C8 Vb ?_|refine IK ?_));done))
      (first
       |(go_at_call 322;refine Sm (hg _) ?_))
     all_goals
      rename_i hH
      have HB:=Za hH.2.2;clear hH;go_wp2_with fail;refine bodyPost_ret (v:=.tuple #[Vi hu,.agg #[Vi A,Vi D,Vi 2],.nilIface]) ?_ rfl ⟨rfl,HB.o⟩
      simp[results,results290,go_sem,G,R,T]
   . rw[if_neg n2]
     obtain rfl:n=3:=by omega
     clear n1 n2 n0 n3' hg
     go_enter func290,ntmps290
     go_upto_region 9 with(first
      |(go_at_call 319;refine Sb (hd _ y.o.2.2.2.2.2.2) fun w1 e=>?_;have y:=Za (y.o.lq e);obtain⟨⟨q0,J,K,N,q4,P,C⟩,⟨Y,X,Q⟩,⟨r0,r1,r2,r3,r4⟩,⟨G,R,T⟩,⟨g0,E,F⟩,⟨I,O,f2⟩,m⟩:=y.o;clear m e)
      |(go_at_call 320;refine Sm (hc _) ?_))
     have Ha:=Za (y.o.setW 3);clear y;generalize he:World.setCell _ _ (Vi _)=j at *;clear he q0 J K N q4 P C Y X Q r0 r1 r2 r3 r4 G R T g0 E F I O f2;obtain⟨⟨q0,J,K,N,q4,P,C⟩,⟨Y,X,Q⟩,⟨r0,r1,r2,r3,r4⟩,⟨G,R,T⟩,⟨g0,E,F⟩,⟨I,O,f2⟩,m⟩:=Ha.o;have Z:=Za (show(V0 j w 4 M/\V4 j w 0 k)/\(V3 j w 0 A/\V3 j w 1 D/\V3 j w 2 3)/\Bw w j from⟨⟨q4,r0⟩,⟨Y,X,Q⟩,m⟩);clear m q0 J K N q4 P C Y X Q r0 r1 r2 r3 r4 g0 E F
     go_region_held3 (fun u=>(V0 u w 4 M/\V4 u w 0 k)/\(V3 u w 0 A/\V3 u w 1 D/\V3 u w 2 3)/\Bw w u)
      (first
       |(with_reducible assumption)
       |(with_reducible apply C8;with_reducible assumption;with_reducible assumption)
       |((repeat (with_reducible first|exact Z.o|assumption|refine C8 Vb ?_|refine IK ?_));done))
      (fail)
     all_goals
      rename_i hH
      have HB:=Za hH.2.2;clear hH;go_wp2_with fail;refine bodyPost_ret (v:=.tuple #[Vi 0,.agg #[Vi A,Vi D,Vi 3],.nilIface]) ?_ rfl ⟨rfl,HB.o⟩
      simp[results,results290,go_sem,G,R,T]
end Go.Proofs.YtnepnnkdgejheaaGreatDoor
