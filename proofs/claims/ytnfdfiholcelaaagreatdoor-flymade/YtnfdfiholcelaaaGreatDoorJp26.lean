
import Derived.Test.YtnfdfiholcelaaaGreatDoorJp18
import Derived.Test.YtnfdfiholcelaaaGreatDoorJp21
set_option maxRecDepth 100000
set_option maxHeartbeats 20000000
namespace Go.Proofs.YtnfdfiholcelaaaGreatDoor
open Go.RowKit Plain Tryz
variable {B K O Z b s:Nat}{w w' w0:World}
theorem axisFrom_any(O:Nat)(a:Option Addr)(l:List Int)(cap n:Nat)(hn:n≤900000)(hl:l.length≤100)(w:World)(hd:Dc w O a l cap n)(hraw:RawAt a l w.heap.size):
 Calls prog 68 #[.pointer (some (Ad O 0))] w fun e w'=>(∃(a0 a1 a2 a3 a4 a5 a6 a7 a8 a9 a10 a11 a14:Int) (G1 G2:Nat),e=.returned (.agg #[Vi a0,Vi a1,Vi a2,Vi a3,Vi a4,Vi a5,Vi a6,Vi a7,Vi a8,Vi a9,Vi a10,Vi a11,.slice (some (Ad G1 0)) 2 2,.slice (some (Ad G2 0)) 2 2,Vi a14])∧AxK a0 a1 a2 a3 a4 a5 a6 a7 a8 a9 a10 a11 a14∧(∃x y z,GL w' G1 G2 x y z)∧w.heap.size≤G1∧w.heap.size≤G2)∧Dc w' O a l cap (n+22)∧DK O w w':=by
 have hO:=hd.lt;have m2:=fun ts t p q w=>run_minA ts t p q w;have x2:=fun ts t p q w=>run_maxA ts t p q w;have HD:=Za (hd.later (Zb w (.cells Qbf 26)));have HZ:=Za (ax_zero w 26);have HK:Hid (DK O w (w.alloc (.cells Qbf 26))):=DK.of_below (Zb _ _)
 go_enter func68,ntmps68
 go_upto_region 1 with fail;generalize (w.alloc (.cells Qbf 26))=u0 at*
 have hZO:w.heap.size≠O:=by omega
 go_upto_region 2 with(first
  |((first|go_at_call_of 67 (Vi 3)|go_at_call_of 67 (Value.int .i64 3));refine(dN 3 hl HD.out).mono ?_;rintro e y0 ⟨⟨s,rfl,s0,s1⟩,hD,hK,hsz⟩;clear hsz;have HD:=Za hD;have HZ:=Za (HZ.out.dk hK hZO);have HK:=Za (HK.out.trans hK);clear hD hK)
  |(go_at_call 70;refine(Uc O a l cap (n+1) 4 60 1000 1 1000 (by omega) hl ?_ _ HD.out).mono ?_;(omega);rintro e y1 ⟨⟨q,rfl,q0,q1⟩,hD,hK⟩;have HD:=Za hD;have HZ:=Za (HZ.out.dk hK hZO);have HK:=Za (HK.out.trans hK);clear hD hK)
  |(go_at_call 67;refine(dN q hl HD.out).mono ?_;rintro e y2 ⟨⟨t,rfl,t0,t1⟩,hD,hK,hsz⟩;clear hsz;have HD:=Za hD;have HZ:=Za (HZ.out.dk hK hZO);have HK:=Za (HK.out.trans hK);clear hD hK))
 have HX:=Za (⟨HD.out.later (Zb _ _),ax_new y2 (2+s) (1+t) 26,HZ.out.later (Zb _ _),HK.out.trans (DK.of_below (Zb _ _)),⟨hO,Nat.le_refl _,HZ.out.lt,hraw⟩,by intro x hx;cases hx⟩:AXS w (y2.alloc (.cells #[Vi 0,Vi 0,Vi 0,Vi 0,Vi (2+s),Vi (1+t),Vi 0,Vi 0,Vi 0,Vi 0,Vi 0,Vi 0,.slice none 0 0,.slice none 0 0,Vi 0] 26)) O w.heap.size y2.heap.size a l cap (n+3) (updV (updV zV 4 (Vi (2+s))) 5 (Vi (1+t))) []);generalize y2.alloc (.cells #[Vi 0,Vi 0,Vi 0,Vi 0,Vi (2+s),Vi (1+t),Vi 0,Vi 0,Vi 0,Vi 0,Vi 0,Vi 0,.slice none 0 0,.slice none 0 0,Vi 0] 26)=u3 at *;generalize y2.heap.size=B at *;have HL:=Za ((ls_zero.put 4 (Vi (2+s))).put 5 (Vi (1+t)));generalize updV (updV zV 4 (Vi (2+s))) 5 (Vi (1+t))=v3 at HX HL
 have bs:2≤2+s∧2+s≤4:=by omega
 have bt:1≤1+t∧1+t≤1000:=by omega
 generalize 2+s=sf at *;generalize 1+t=tv at *;obtain⟨bs0,bs1⟩:=bs;obtain⟨bt0,bt1⟩:=bt;clear HD HZ HK hd s0 s1 q0 q1 t0 t1;have c5:=AXS.ld HX.out HL.out (j:=5) (x:=Vi tv) rfl;have TK3:Hid True:=trivial
 go_upto_region 3 with(go_at_call 67;clear TK3;refine(dN tv hl HX.out.1).mono ?_;rintro e y3 ⟨⟨r,rfl,r0,r1⟩,hD,hK,hsz⟩;clear hsz;have HX:=Za (AXS.dk HX.out hD hK);clear hD hK;have d6:=(HX.out.2.1 6 (by omega)).1;have f6:=(HX.out.2.1 6 (by omega)).2);have HX:=Za (AXS.put (HX.out) 6 (Vi (1+r)));have HL:=Za ((HL.out).put 6 (Vi (1+r)));generalize (updV v3 6 (Vi (1+r)))=v4 at HX HL;generalize (y3.setCell (Ad B 6) (Vi (1+r)))=u4 at*
 have br:1≤1+r∧1+r≤tv:=by omega
 generalize 1+r=rv at *;obtain⟨br0,br1⟩:=br;clear r0 r1 c5 d6 f6;have c4:=AXS.ld HX.out HL.out (j:=4) (x:=Vi sf) rfl;have c5:=AXS.ld HX.out HL.out (j:=5) (x:=Vi tv) rfl;have c6:=AXS.ld HX.out HL.out (j:=6) (x:=Vi rv) rfl
 have bm:1≤(sf-1)*tv∧(sf-1)*tv≤3000:=by rcases(show sf=2∨sf=3∨sf=4 by omega) with rfl|rfl|rfl<;>omega
 have bc:1≤(sf-1)*rv∧(sf-1)*rv≤3000:=by rcases(show sf=2∨sf=3∨sf=4 by omega) with rfl|rfl|rfl<;>omega
 have vm:=Wr ((sf-1)*tv);have vc:=Wr ((sf-1)*rv);obtain⟨bm0,bm1⟩:=bm;obtain⟨bc0,bc1⟩:=bc
 go_upto_region 5 with fail
 have bn:1≤mnA ((sf-1)*rv) 1000∧mnA ((sf-1)*rv) 1000≤1000:=by unfold mnA;omega
 have Hg:=Za (show mnA ((sf-1)*rv) 1000≤(sf-1)*rv by unfold mnA;omega);generalize mnA ((sf-1)*rv) 1000=cn at *;generalize hmo:(sf-1)*tv=mo at *;have Hc:=Za hmo;clear hmo;obtain⟨bn0,bn1⟩:=bn;clear vm vc bc0 bc1 c4 c5 c6;have c5:=AXS.ld HX.out HL.out (j:=5) (x:=Vi tv) rfl;have Z:=Za c5;have m3:=fun ts t p q r w=>mrun_min3 ts t p q r w
 go_region_held3 (fun u=>Kc u B 5 (Vi tv))
  (first
   |(with_reducible assumption)
   |(exact keepC (Zb _ _) (by with_reducible assumption))
   |(exact keepC (Below.refl _ _).drew Z.out)
   |(exact keepC ((Zb _ _).drew) Z.out)
   |(exact keepCs (by decide) (by with_reducible assumption)))
  (first
   |(go_at_call 70;(first|(refine(Uc O a l cap (n+4) 1 10 1000 1 1000 (by omega) hl ?_ _ HX.out.1).mono ?_;(omega);rintro e y4 ⟨⟨q,rfl,q0,q1⟩,hD,hK⟩;have HX:=Za (AXS.dk HX.out hD hK))|(refine(diceMost3d O a l cap (n+4) 1 10 1000 1 1000 (by omega) hl ?_ _ HX.out.1).mono ?_;(omega);rintro e y4 ⟨⟨q,rfl,q0,q1⟩,hD,hK⟩;have HX:=Za (AXS.dk HX.out hD hK)));clear hD hK;have c5:=AXS.ld HX.out HL.out (j:=5) (x:=Vi tv) rfl)
   |(go_at_call 67;have bq:1≤mnA (mnA tv cn) q+1∧mnA (mnA tv cn) q+1≤1001∧mnA (mnA tv cn) q≤tv∧mnA (mnA tv cn) q≤cn:=(min3_bd bt0 bn0 q0 bt1);have vq:=Wr (mnA (mnA tv cn) q+1);rw[vq];refine(N2 O a l cap (n+5) (mnA (mnA tv cn) q+1) (by omega) (by omega) (by omega) hl _ HX.out.1).mono ?_;rintro e y5 ⟨⟨ks,rfl,ks0,ks1⟩,hD,hK,hsz⟩;clear hsz vq;have HX:=Za (AXS.dk HX.out hD hK);clear hD hK;have c5:=AXS.ld HX.out HL.out (j:=5) (x:=Vi tv) rfl;have d7:=(HX.out.2.1 7 (by omega)).1;have f7:=(HX.out.2.1 7 (by omega)).2))
 rename_i hH
 clear hH
 go_upto_region 6 with fail;have HX:=Za (AXS.put (HX.out) 7 (Vi ks));have HL:=Za ((HL.out).put 7 (Vi ks));generalize (updV v4 7 (Vi ks))=v6 at HX HL;generalize (y5.setCell (Ad B 7) (Vi ks))=u6 at*
 have bk:ks≤tv∧ks≤cn:=by omega
 obtain⟨bk0,bk1⟩:=bk;clear ks1 bq c5 d7 f7 Z m3 q0 q1;have c7:=AXS.ld HX.out HL.out (j:=7) (x:=Vi ks) rfl;have TK6:Hid True:=trivial
 go_upto_region 7 with(go_at_call 67;clear TK6;refine(dN (cn-ks+1) hl HX.out.1).mono ?_;rintro e y6 ⟨⟨pu,rfl,pu0,pu1⟩,hD,hK,hsz⟩;clear hsz;have HX:=Za (AXS.dk HX.out hD hK);clear hD hK;have d3:=(HX.out.2.1 3 (by omega)).1;have f3:=(HX.out.2.1 3 (by omega)).2);have HX:=Za (AXS.put (HX.out) 3 (Vi pu));have HL:=Za ((HL.out).put 3 (Vi pu));generalize (updV v6 3 (Vi pu))=v7 at HX HL;generalize (y6.setCell (Ad B 3) (Vi pu))=u7 at*
 have bp:pu≤1000:=by omega
 have Hd:=Za (show pu+ks≤cn by omega);clear pu1 c7 d3 f3;have TK7:Hid True:=trivial;have TK8:Hid True:=trivial
 go_upto_region 8 with(first
  |(go_at_call 70;clear TK7;refine(Uc O a l cap (n+7) 2 10 1001 1 1001 (by omega) hl ?_ _ HX.out.1).mono ?_;(omega);rintro e y7 ⟨⟨q,rfl,q0,q1⟩,hD,hK⟩;have HX:=Za (AXS.dk HX.out hD hK);clear hD hK)
  |(go_at_call 67;clear TK8;refine(dN q hl HX.out.1).mono ?_;rintro e y8 ⟨⟨nz,rfl,nz0,nz1⟩,hD,hK,hsz⟩;clear hsz;have HX:=Za (AXS.dk HX.out hD hK);clear hD hK;have d2:=(HX.out.2.1 2 (by omega)).1;have f2:=(HX.out.2.1 2 (by omega)).2))
 have HX:=Za (AXS.put (HX.out) 2 (Vi nz));have HL:=Za ((HL.out).put 2 (Vi nz));generalize (updV v7 2 (Vi nz))=v9 at HX HL;generalize (y8.setCell (Ad B 2) (Vi nz))=u9 at*
 have bz:nz≤1000:=by omega
 clear nz1 d2 f2 q0 q1;have c2:=AXS.ld HX.out HL.out (j:=2) (x:=Vi nz) rfl;have Z:=Za c2;have vz:=Wr (2*nz)
 go_region_held3 (fun u=>Kc u B 2 (Vi nz))
  (first
   |(with_reducible assumption)
   |(exact keepC (Zb _ _) (by with_reducible assumption))
   |(exact keepC (Below.refl _ _).drew Z.out)
   |(exact keepC ((Zb _ _).drew) Z.out)
   |(exact keepCs (by decide) (by with_reducible assumption)))
  (first
   |(go_at_call 67;(first|(refine(dN 40 hl HX.out.1).mono ?_;rintro e y9 ⟨⟨li,rfl,li0,li1⟩,hD,hK,hsz⟩;clear hsz;have HX:=Za (AXS.dk HX.out hD hK))|(refine(N2 O a l cap (n+9) 40 (by omega) (by omega) (by omega) hl _ (AXS.later HX.out (Below.refl _ _).drew).1).mono ?_;rintro e y9 ⟨⟨li,rfl,li0,li1⟩,hD,hK,hsz⟩;clear hsz;have HX:=Za (AXS.dk (AXS.later HX.out (Below.refl _ _).drew) hD hK)));clear hD hK;have c2:=AXS.ld HX.out HL.out (j:=2) (x:=Vi nz) rfl;have d8:=(HX.out.2.1 8 (by omega)).1;have f8:=(HX.out.2.1 8 (by omega)).2))
 rename_i hH
 clear hH;have vl:=Wr (2*nz+li)
 go_upto_region 9 with fail;rw[vl];have HX:=Za (AXS.put (HX.out) 8 (Vi (2*nz+li)));have HL:=Za ((HL.out).put 8 (Vi (2*nz+li)));generalize (updV v9 8 (Vi (2*nz+li)))=v10 at HX HL;generalize (y9.setCell (Ad B 8) (Vi (2*nz+li)))=u10 at*
 have blm:2*nz≤2*nz+li∧2*nz+li≤2040:=by omega
 clear vl vz;generalize 2*nz+li=lm at *;have Hh:=Za blm;clear li0 li1 c2 d8 f8 Z blm;have TK10:Hid True:=trivial;have TK11:Hid True:=trivial
 go_upto_region 10 with(first
  |(go_at_call 67;clear TK10;refine(dN 10 hl HX.out.1).mono ?_;rintro e y10 ⟨⟨cf,rfl,cf0,cf1⟩,hD,hK,hsz⟩;clear hsz;have HX:=Za (AXS.dk HX.out hD hK);clear hD hK)
  |(go_at_call 67;clear TK11;refine(dN 10 hl HX.out.1).mono ?_;rintro e y11 ⟨⟨wt,rfl,wt0,wt1⟩,hD,hK,hsz⟩;clear hsz;have HX:=Za (AXS.dk HX.out hD hK);clear hD hK;have d9:=(HX.out.2.1 9 (by omega)).1;have f9:=(HX.out.2.1 9 (by omega)).2;have d10:=(HX.out.2.1 10 (by omega)).1;have f10:=(HX.out.2.1 10 (by omega)).2))
 have HX:=Za (AXS.put (AXS.put (HX.out) 9 (Vi (1+cf))) 10 (Vi (1+wt)));have HL:=Za (((HL.out).put 9 (Vi (1+cf))).put 10 (Vi (1+wt)));generalize (updV (updV v10 9 (Vi (1+cf))) 10 (Vi (1+wt)))=v12 at HX HL;generalize ((y11.setCell (Ad B 9) (Vi (1+cf))).setCell (Ad B 10) (Vi (1+wt)))=u12 at*
 have bw:1≤1+wt∧1+wt≤10:=by omega
 have bcv:1≤1+cf∧1+cf≤10:=by omega
 generalize 1+wt=wa at *;generalize 1+cf=cv at *;have Hi:=Za bcv;clear cf0 cf1 wt0 wt1 d9 f9 d10 f10 bcv;have TK12:Hid True:=trivial;have TK13:Hid True:=trivial;have TK14:Hid True:=trivial
 go_upto_region 11 with(first
  |(go_at_call 67;clear TK12;refine(dN 1001 hl HX.out.1).mono ?_;rintro e y12 ⟨⟨tu,rfl,tu0,tu1⟩,hD,hK,hsz⟩;clear hsz;have HX:=Za (AXS.dk HX.out hD hK);clear hD hK)
  |(go_at_call 70;clear TK13;refine(Uc O a l cap (n+13) 4 200 65537 1 65537 (by omega) hl ?_ _ HX.out.1).mono ?_;(omega);rintro e y13 ⟨⟨q,rfl,q0,q1⟩,hD,hK⟩;have HX:=Za (AXS.dk HX.out hD hK);clear hD hK)
  |(go_at_call 67;clear TK14;refine(dN q hl HX.out.1).mono ?_;rintro e y14 ⟨⟨bu,rfl,bu0,bu1⟩,hD,hK,hsz⟩;clear hsz;have HX:=Za (AXS.dk HX.out hD hK);clear hD hK;have d11:=(HX.out.2.1 11 (by omega)).1;have f11:=(HX.out.2.1 11 (by omega)).2;have d14:=(HX.out.2.1 14 (by omega)).1;have f14:=(HX.out.2.1 14 (by omega)).2))
 have HX:=Za (AXS.put (AXS.put (HX.out) 11 (Vi tu)) 14 (Vi bu));have HL:=Za (((HL.out).put 11 (Vi tu)).put 14 (Vi bu));generalize (updV (updV v12 11 (Vi tu)) 14 (Vi bu))=v15 at HX HL;generalize ((y14.setCell (Ad B 11) (Vi tu)).setCell (Ad B 14) (Vi bu))=u15 at *;have Hj:=Za (show(0≤tu∧tu≤1000)∧0≤bu∧bu≤65536 by omega);clear tu0 tu1 bu0 bu1 q0 q1 d11 f11 d14 f14;have TK15:Hid True:=trivial;have TK16:Hid True:=trivial;have TK17:Hid True:=trivial;have TK18:Hid True:=trivial
 go_upto_region 12 with(first
  |(go_at_call 67;clear TK15;refine(dN 900 hl HX.out.1).mono ?_;rintro e y15 ⟨⟨ga,rfl,ga0,ga1⟩,hD,hK,hsz⟩;clear hsz;have HX:=Za (AXS.dk HX.out hD hK);clear hD hK)
  |(go_at_call 70;clear TK16;refine(diceMost2k O a l cap (n+16) _ 60 65537 1 65537 (by omega) hl ?_ _ ?_ (AXS.later HX.out (Zb y15 (.cells #[Vi 0,Vi (100+ga)] 3))).1).mono ?_;(omega);(simp[go_sem]);rintro e y16 ⟨⟨q,rfl,q0,q1⟩,hD,hK⟩;have HX:=Za (AXS.dk (AXS.grow HX.out 0 (100+ga) 3) hD hK);clear hD hK)
  |(go_at_call 67;clear TK17;refine(dN q hl HX.out.1).mono ?_;rintro e y17 ⟨⟨gx,rfl,gx0,gx1⟩,hD,hK,hsz⟩;clear hsz;have HX:=Za (AXS.dk HX.out hD hK);clear hD hK)
  |(go_at_call 67;clear TK18;refine(dN 300 hl HX.out.1).mono ?_;rintro e y18 ⟨⟨gy,rfl,gy0,gy1⟩,hD,hK,hsz⟩;clear hsz;have HX:=Za (AXS.grow (AXS.dk HX.out hD hK) gx gy 3);clear hD hK;have d12:=(HX.out.2.1 12 (by omega)).1;have f12:=(HX.out.2.1 12 (by omega)).2;have d13:=(HX.out.2.1 13 (by omega)).1;have f13:=(HX.out.2.1 13 (by omega)).2))
 have HX:=Za (AXS.put (AXS.put (HX.out) 12 (.slice (some (Ad y15.heap.size 0)) 2 2)) 13 (.slice (some (Ad y18.heap.size 0)) 2 2));have HL:=Za ((HL.out.put 12 (.slice (some (Ad y15.heap.size 0)) 2 2)).put 13 (.slice (some (Ad y18.heap.size 0)) 2 2));generalize updV (updV v15 12 (.slice (some (Ad y15.heap.size 0)) 2 2)) 13 (.slice (some (Ad y18.heap.size 0)) 2 2)=v19 at HX HL;generalize (((y18.alloc (.cells #[Vi gx,Vi gy] 3)).setCell (Ad B 12) (.slice (some (Ad y15.heap.size 0)) 2 2)).setCell (Ad B 13) (.slice (some (Ad y18.heap.size 0)) 2 2))=u19 at *;have Hk:=Za (show(100≤100+ga∧100+ga≤999)∧(0≤gx∧gx≤65536)∧0≤gy∧gy≤299 by omega);generalize y15.heap.size=G1 at *;generalize y18.heap.size=G2 at *;generalize 100+ga=gz at *;clear ga0 ga1 gx0 gx1 gy0 gy1 q0 q1 d12 f12 d13 f13
 have bc:1≤(sf-1)*rv∧(sf-1)*rv≤3000:=by rcases(show sf=2∨sf=3∨sf=4 by omega) with rfl|rfl|rfl<;>omega
 have S0:u19.cell? (Ad B 0)=some (Vi 0)∧Kc u19 B 1 (Vi 0)∧Kc u19 B 2 (Vi nz)∧Kc u19 B 3 (Vi pu)∧Kc u19 B 4 (Vi sf)∧Kc u19 B 5 (Vi tv)∧Kc u19 B 6 (Vi rv)∧Kc u19 B 7 (Vi ks)∧Kc u19 B 8 (Vi lm)∧Kc u19 B 9 (Vi cv)∧Kc u19 B 10 (Vi wa)∧Kc u19 B 11 (Vi tu)∧Kc u19 B 12 (.slice (some (Ad G1 0)) 2 2)∧Kc u19 B 13 (.slice (some (Ad G2 0)) 2 2)∧Kc u19 B 14 (Vi bu):=AXS.all HX.out (show Ls v19 [Vi 0,Vi 0,Vi nz,Vi pu,Vi sf,Vi tv,Vi rv,Vi ks,Vi lm,Vi cv,Vi wa,Vi tu,.slice (some (Ad G1 0)) 2 2,.slice (some (Ad G2 0)) 2 2,Vi bu] from HL.out);have Z:=Za S0;have hgr:=Zhz 0 0 nz pu sf tv rv ks lm cv wa tu bu (.slice (some (Ad G1 0)) 2 2) (.slice (some (Ad G2 0)) 2 2) ⟨pu0,bp⟩ ⟨ks0,by omega⟩ ⟨bs0,bs1⟩ ⟨bt0,bt1⟩ ⟨by omega,by omega⟩;have hbr:=Nr 0 0 nz (pu+ks) ((sf-1)*tv) ((sf-1)*rv) mo (by omega) (by omega) (by omega) (by omega) (by omega) (by omega);obtain⟨bkv,hbkv⟩:∃bkv,bk ((sf-1)*rv) (mo+(pu+ks))=bkv:=⟨_,rfl⟩;rw[hbkv] at hbr
 have bkv0:0≤bkv:=by rw[←hbkv];exact Wf _ _
 have bkv1:bkv≤36000000:=by rw[←hbkv];exact bk_lt (by omega) (by omega)
 have Ha:=Za hbkv;clear hbkv;generalize pu+ks=r3 at hgr hbr;generalize (sf-1)*tv=r4 at hgr hbr;generalize (sf-1)*rv=r5 at hgr hbr
 go_region_held3 (fun u=>Kc u B 0 (Vi 0)∧Kc u B 1 (Vi 0)∧Kc u B 2 (Vi nz)∧Kc u B 3 (Vi pu)∧Kc u B 4 (Vi sf)∧Kc u B 5 (Vi tv)∧Kc u B 6 (Vi rv)∧Kc u B 7 (Vi ks)∧Kc u B 8 (Vi lm)∧Kc u B 9 (Vi cv)∧Kc u B 10 (Vi wa)∧Kc u B 11 (Vi tu)∧Kc u B 12 (.slice (some (Ad G1 0)) 2 2)∧Kc u B 13 (.slice (some (Ad G2 0)) 2 2)∧Kc u B 14 (Vi bu))
  (first
   |(with_reducible assumption)
   |(with_reducible apply keep15;with_reducible assumption;with_reducible assumption)
   |(refine keep15 ?_ Z.out;exact(Below.refl _ _).drew))
  (first
   |(go_at_call 40;refine Sb (hgr _) fun w1 hb=>?_;(first|(have HX:=Za (AXS.later HX.out hb))|(have HX:=Za (AXS.later (AXS.later HX.out (Below.refl _ _).drew) hb))))
   |(go_at_call 39;refine Sb (hbr _) fun w2 hq=>?_;have hb:=below_eq hq;clear hq;(first|(have HX:=Za (AXS.later HX.out hb))|(have HX:=Za (AXS.later (AXS.later HX.out (Below.refl _ _).drew) hb)));have vb1:=Wr (nz+bkv);have vb2:=Wr (2*(nz+bkv))))
 rename_i hH
 clear hH
 go_upto_if 108 with fail;have Hb:=Za (show pu+ks≤(sf-1)*rv from Int.le_trans Hd.out Hg.out)
 have bwd:0≤2*(nz+bkv)∧2*(nz+bkv)≤130000000:=by omega
 generalize hwd:2*(nz+bkv)=wd at *;have Hl:=Za (show wd=2*(nz+bk ((sf-1)*rv) (mo+(pu+ks))) by rw[Ha.out];exact hwd.symm);clear hwd;obtain⟨bwd0,bwd1⟩:=bwd;clear vb1 vb2 bkv0 bkv1 hgr hbr Z S0 Ha
 go_cut [6] (fun x u=>∃(wd rv':Int) (v':Nat→Value),x=Vi wd∧(0≤wd∧wd≤150000)∧AXS w u O w.heap.size B a l cap (n+19) v' [(⟨G2,0,none⟩,Vi gx),(⟨G2,1,none⟩,Vi gy),(⟨G1,0,none⟩,Vi 0),(⟨G1,1,none⟩,Vi gz)]∧(Ls v' [Vi 0,Vi 0,Vi nz,Vi pu,Vi sf,Vi tv,Vi rv',Vi ks,Vi lm,Vi cv,Vi wa,Vi tu,.slice (some (Ad G1 0)) 2 2,.slice (some (Ad G2 0)) 2 2,Vi bu])∧(1≤rv'∧rv'≤tv)∧pu+ks≤(sf-1)*rv'∧wd=2*(nz+bk ((sf-1)*rv') (mo+(pu+ks))))
 case first=>
  by_cases hw:150000<wd
  · have c5:=AXS.ld HX.out HL.out (j:=5) (x:=Vi tv) rfl;have d6:=(HX.out.2.1 6 (by omega)).1;have f6:=(HX.out.2.1 6 (by omega)).2
    go_upto_region 15 with fail;have HX:=Za (AXS.put (HX.out) 6 (Vi tv));have HL:=Za (HL.out.put 6 (Vi tv));generalize updV v19 6 (Vi tv)=v20 at HX HL;generalize w2.setCell (Ad B 6) (Vi tv)=u20 at *;clear c5 d6 f6
    have bc2:1≤(sf-1)*tv∧(sf-1)*tv≤3000:=by rcases(show sf=2∨sf=3∨sf=4 by omega) with rfl|rfl|rfl<;>omega
    have S0:u20.cell? (Ad B 0)=some (Vi 0)∧Kc u20 B 1 (Vi 0)∧Kc u20 B 2 (Vi nz)∧Kc u20 B 3 (Vi pu)∧Kc u20 B 4 (Vi sf)∧Kc u20 B 5 (Vi tv)∧Kc u20 B 6 (Vi tv)∧Kc u20 B 7 (Vi ks)∧Kc u20 B 8 (Vi lm)∧Kc u20 B 9 (Vi cv)∧Kc u20 B 10 (Vi wa)∧Kc u20 B 11 (Vi tu)∧Kc u20 B 12 (.slice (some (Ad G1 0)) 2 2)∧Kc u20 B 13 (.slice (some (Ad G2 0)) 2 2)∧Kc u20 B 14 (Vi bu):=AXS.all HX.out (show Ls v20 [Vi 0,Vi 0,Vi nz,Vi pu,Vi sf,Vi tv,Vi tv,Vi ks,Vi lm,Vi cv,Vi wa,Vi tu,.slice (some (Ad G1 0)) 2 2,.slice (some (Ad G2 0)) 2 2,Vi bu] from HL.out);have Z:=Za S0;have hgr:=Zhz 0 0 nz pu sf tv tv ks lm cv wa tu bu (.slice (some (Ad G1 0)) 2 2) (.slice (some (Ad G2 0)) 2 2) ⟨pu0,bp⟩ ⟨ks0,by omega⟩ ⟨bs0,bs1⟩ ⟨bt0,bt1⟩ ⟨by omega,by omega⟩;have hbr:=Nr 0 0 nz (pu+ks) ((sf-1)*tv) ((sf-1)*tv) mo (by omega) (by omega) (by omega) (by omega) (by omega) (by omega);obtain⟨bj,hbj⟩:∃bj,bk ((sf-1)*tv) (mo+(pu+ks))=bj:=⟨_,rfl⟩;rw[hbj] at hbr
    have bj0:0≤bj:=by rw[←hbj];exact Wf _ _
    have bj1:bj≤36000000:=by rw[←hbj];exact bk_lt (by omega) (by omega)
    have Hf:=Za hbj;clear hbj;generalize pu+ks=r3 at hgr hbr;generalize (sf-1)*tv=r4 at hgr hbr;generalize (sf-1)*tv=r5 at hgr hbr
    go_region_held3 (fun u=>Kc u B 0 (Vi 0)∧Kc u B 1 (Vi 0)∧Kc u B 2 (Vi nz)∧Kc u B 3 (Vi pu)∧Kc u B 4 (Vi sf)∧Kc u B 5 (Vi tv)∧Kc u B 6 (Vi tv)∧Kc u B 7 (Vi ks)∧Kc u B 8 (Vi lm)∧Kc u B 9 (Vi cv)∧Kc u B 10 (Vi wa)∧Kc u B 11 (Vi tu)∧Kc u B 12 (.slice (some (Ad G1 0)) 2 2)∧Kc u B 13 (.slice (some (Ad G2 0)) 2 2)∧Kc u B 14 (Vi bu))
     (first
      |(with_reducible assumption)
      |(with_reducible apply keep15;with_reducible assumption;with_reducible assumption)
      |(refine keep15 ?_ Z.out;exact(Below.refl _ _).drew))
     (first
      |(go_at_call 40;refine Sb (hgr _) fun w1 hb=>?_;(first|(have HX:=Za (AXS.later HX.out hb))|(have HX:=Za (AXS.later (AXS.later HX.out (Below.refl _ _).drew) hb))))
      |(go_at_call 39;refine Sb (hbr _) fun w2 hq=>?_;have hb:=below_eq hq;clear hq;(first|(have HX:=Za (AXS.later HX.out hb))|(have HX:=Za (AXS.later (AXS.later HX.out (Below.refl _ _).drew) hb)));have vb1:=Wr (nz+bj);have vb2:=Wr (2*(nz+bj))))
    rename_i hH
    clear hH;go_wp2_with fail
    have bjx:bj≤5000:=by rw[←Hf.out,←Hc.out];have:=bk_all (R:=(sf-1)*tv) (P:=pu+ks) (by omega) (by omega) (Int.le_trans Hb.out (Int.mul_le_mul_of_nonneg_left br1 (by omega)));have:=Hd.out;omega
    go_meet
    (case rel=>exact⟨2*(nz+bj),tv,_,rfl,⟨by omega,by omega⟩,HX.out,HL.out,⟨by omega,by omega⟩,Int.le_trans Hb.out (Int.mul_le_mul_of_nonneg_left br1 (by omega)),by rw[Hf.out]⟩)
  · go_wp2
    go_meet
    (case rel=>exact⟨wd,rv,_,rfl,⟨by omega,by omega⟩,HX.out,HL.out,⟨by omega,by omega⟩,Hb.out,Hl.out⟩)
 case rest=>
  obtain⟨wi,rx,vr,rfl,bwi,hX,hvs,brx,hpr,hwi⟩:=hcut;refine Ek ?_;exact axisTail_any O a l cap n hn hl w hraw hO _ B G1 G2 sf tv nz ks pu wa mo cn lm cv tu bu gx gy gz _ wi rx vr bwi hX hvs brx hpr (by rw[hwi,Hc.out]) Hk.out Hh.out Hi.out Hj.out ⟨bs0,bs1⟩ ⟨bt0,bt1⟩ ⟨nz0,bz⟩ ⟨ks0,bk0⟩ ⟨pu0,bp⟩ bw _ _ _ _ _ _ _ _ _ _ _ _ _ _ _ _ _ _ _ _ _ _ _ _ _ _ _ _ _ _ _ _ _ _ _ _ _ _ _ _ _ _ _ _ _ _ _ _ _ _ _ _ _ _ _ _ _ _ _ _ _ _ _ _ _ _ _ _ _ _ _ _ _ _ _ _ _ _ _ _ _ _ _ _ _ _ _ _ _ _ _ _ _ _ _ _ _ _ _ _ _ _ _ _ _ _ _ _ _ _ _ _ _ _ _ _ _ _ _ _ _ _ _ _ _ _ _ _ _ _ _ _ _ _ _ _ _ _ _ _ _ _ _
def CxV(w:World)(B:Nat)(v:Nat→Value):Prop:=∀j,j<32→Kc w B j (v j)∧w.frozen? (Ad B j)=false
theorem CxV.lt{v:Nat→Value}(h:CxV w B v):B<w.heap.size:=World.block_lt_of_cell? w ⟨B,0,none⟩ (h 0 (by omega)).1
theorem CxV.later{v:Nat→Value}(h:CxV w B v)(hb:Bw w w'):CxV w' B v:=fun j hj=>⟨cell_later hb (h j hj).1,(hb.frozen (p:=⟨B,j,none⟩) h.lt).trans (h j hj).2⟩
theorem CxV.dk{v:Nat→Value}(h:CxV w B v)(hk:DK O w w')(hB:B≠O):CxV w' B v:=fun j hj=>
 ⟨hk.cell (p:=⟨B,j,none⟩) hB (h j hj).1,(World.frozen?_of_block (w:=w) (a:=⟨B,j,none⟩) (hk.block B h.lt hB)).trans (h j hj).2⟩
theorem CxV.put{v:Nat→Value}(h:CxV w B v)(k:Nat)(x:Value):CxV (w.setCell (Ad B k) x) B (updV v k x):=fun j hj=>by
 refine⟨?_,by simpa[go_sem] using(h j hj).2⟩
 by_cases e:j=k
 · subst e;rw[updV_same];exact Xm (h j hj).1
 · rw[updV_other rfl e];exact Zi (h j hj).1 (Zo (Ne.symm e))
theorem CxV.set{C q:Nat}{v:Nat→Value}{x:Value}(h:CxV w B v)(hC:C≠B):CxV (w.setCell (Ad C q) x) B v:=fun j hj=>
 ⟨Zi (h j hj).1 (Yh hC),by simpa[go_sem] using(h j hj).2⟩
def zC(j:Nat):Value:=if j=12 then .slice none 0 0 else if j=13 then .slice none 0 0 else if j=27 then .slice none 0 0 else if j=28 then .slice none 0 0 else Vi 0
theorem cx_new(w:World)(x y:Int)(ty:TypeId):CxV (w.alloc (.cells #[Vi 0,Vi 0,Vi 0,Vi 0,Vi 0,Vi 0,Vi 0,Vi 0,Vi 0,Vi 0,Vi 0,Vi 0,.slice none 0 0,.slice none 0 0,Vi 0,Vi 0,Vi 0,Vi 0,Vi 0,Vi 0,Vi 0,Vi 0,Vi 0,Vi 0,Vi 0,Vi 0,Vi 0,.slice none 0 0,.slice none 0 0,Vi 0,Vi x,Vi y] ty)) w.heap.size (updV (updV zC 30 (Vi x)) 31 (Vi y)):=by
 intro j hj;refine⟨?_,by simp[go_sem]⟩
 rcases(show j=0∨j=1∨j=2∨j=3∨j=4∨j=5∨j=6∨j=7∨j=8∨j=9∨j=10∨j=11∨j=12∨j=13∨j=14∨j=15∨j=16∨j=17∨j=18∨j=19∨j=20∨j=21∨j=22∨j=23∨j=24∨j=25∨j=26∨j=27∨j=28∨j=29∨j=30∨j=31 by omega) with rfl|rfl|rfl|rfl|rfl|rfl|rfl|rfl|rfl|rfl|rfl|rfl|rfl|rfl|rfl|rfl|rfl|rfl|rfl|rfl|rfl|rfl|rfl|rfl|rfl|rfl|rfl|rfl|rfl|rfl|rfl|rfl<;>simp[go_sem,updV,zC]
theorem cx_zero(w:World)(ty:TypeId):CxV (w.alloc (.cells Qaq ty)) w.heap.size zC:=by
 intro j hj;refine⟨?_,by simp[go_sem]⟩
 rcases(show j=0∨j=1∨j=2∨j=3∨j=4∨j=5∨j=6∨j=7∨j=8∨j=9∨j=10∨j=11∨j=12∨j=13∨j=14∨j=15∨j=16∨j=17∨j=18∨j=19∨j=20∨j=21∨j=22∨j=23∨j=24∨j=25∨j=26∨j=27∨j=28∨j=29∨j=30∨j=31 by omega) with rfl|rfl|rfl|rfl|rfl|rfl|rfl|rfl|rfl|rfl|rfl|rfl|rfl|rfl|rfl|rfl|rfl|rfl|rfl|rfl|rfl|rfl|rfl|rfl|rfl|rfl|rfl|rfl|rfl|rfl|rfl|rfl<;>simp[go_sem,zC]
def CXS(w0 w:World)(O Z B:Nat)(a:Option Addr)(l:List Int)(cap n:Nat)(v:Nat→Value):Prop:=
 Dc w O a l cap n∧CxV w B v∧CxV w Z zC∧Bw w0 w∧(w0.heap.size≤Z∧Z<O∧O<B∧RawAt a l w0.heap.size)
theorem CXS.dk{a l cap n m v}(h:CXS w0 w O Z B a l cap n v)(hD:Dc w' O a l cap m)(hk:DK O w w'):CXS w0 w' O Z B a l cap m v:=by
 have:=h.2.2.2.2;exact⟨hD,h.2.1.dk hk (by omega),h.2.2.1.dk hk (by omega),DK.below h.2.2.2.1 hk (by omega) h.2.2.2.1.size,h.2.2.2.2⟩
theorem CXS.put{a l cap n v}(h:CXS w0 w O Z B a l cap n v)(k:Nat)(x:Value):CXS w0 (w.setCell (Ad B k) x) O Z B a l cap n (updV v k x):=by
 obtain⟨h1,h2,h3,h4,h5,h6,h7,h8⟩:=h;exact⟨h1.set (by omega) (fun b off e hl=>by have:=h8 b off e hl;omega),h2.put k x,h3.set (by omega),h4.setCell (by simp;omega) _,h5,h6,h7,h8⟩
theorem puts0{a l cap n v}(h:CXS w0 w O Z B a l cap n v)(x0 x1 x2 x3 x4 x5 x6 x7 x8 x9 x10 x11 x12 x13 x14:Value):
 ∃U v',U=(((((((((((((((w.setCell (Ad B 0) (x0)).setCell (Ad B 1) (x1)).setCell (Ad B 2) (x2)).setCell (Ad B 3) (x3)).setCell (Ad B 4) (x4)).setCell (Ad B 5) (x5)).setCell (Ad B 6) (x6)).setCell (Ad B 7) (x7)).setCell (Ad B 8) (x8)).setCell (Ad B 9) (x9)).setCell (Ad B 10) (x10)).setCell (Ad B 11) (x11)).setCell (Ad B 12) (x12)).setCell (Ad B 13) (x13)).setCell (Ad B 14) (x14))∧CXS w0 U O Z B a l cap n v'∧(v' 0=x0∧v' 1=x1∧v' 2=x2∧v' 3=x3∧v' 4=x4∧v' 5=x5∧v' 6=x6∧v' 7=x7∧v' 8=x8∧v' 9=x9∧v' 10=x10∧v' 11=x11∧v' 12=x12∧v' 13=x13∧v' 14=x14)∧(∀j,(j<0∨15≤j)→v' j=v j)∧∀(x:Addr) (c:Value),x.block≠B→w.cell? x=some c→U.cell? x=some c:=by
 refine⟨_,(updV (updV (updV (updV (updV (updV (updV (updV (updV (updV (updV (updV (updV (updV (updV v 0 x0) 1 x1) 2 x2) 3 x3) 4 x4) 5 x5) 6 x6) 7 x7) 8 x8) 9 x9) 10 x10) 11 x11) 12 x12) 13 x13) 14 x14),rfl,(CXS.put (CXS.put (CXS.put (CXS.put (CXS.put (CXS.put (CXS.put (CXS.put (CXS.put (CXS.put (CXS.put (CXS.put (CXS.put (CXS.put (CXS.put h 0 x0) 1 x1) 2 x2) 3 x3) 4 x4) 5 x5) 6 x6) 7 x7) 8 x8) 9 x9) 10 x10) 11 x11) 12 x12) 13 x13) 14 x14),⟨by simp[updV],by simp[updV],by simp[updV],by simp[updV],by simp[updV],by simp[updV],by simp[updV],by simp[updV],by simp[updV],by simp[updV],by simp[updV],by simp[updV],by simp[updV],by simp[updV],by simp[updV]⟩,fun j hj=>?_,fun x c hb hx=>gset (gset (gset (gset (gset (gset (gset (gset (gset (gset (gset (gset (gset (gset (gset (hx) hb) hb) hb) hb) hb) hb) hb) hb) hb) hb) hb) hb) hb) hb) hb⟩
 unfold updV
 rw[if_neg (by omega),if_neg (by omega),if_neg (by omega),if_neg (by omega),if_neg (by omega),if_neg (by omega),if_neg (by omega),if_neg (by omega),if_neg (by omega),if_neg (by omega),if_neg (by omega),if_neg (by omega),if_neg (by omega),if_neg (by omega),if_neg (by omega)]
theorem puts15{a l cap n v}(h:CXS w0 w O Z B a l cap n v)(x0 x1 x2 x3 x4 x5 x6 x7 x8 x9 x10 x11 x12 x13 x14:Value):
 ∃U v',U=(((((((((((((((w.setCell (Ad B 15) (x0)).setCell (Ad B 16) (x1)).setCell (Ad B 17) (x2)).setCell (Ad B 18) (x3)).setCell (Ad B 19) (x4)).setCell (Ad B 20) (x5)).setCell (Ad B 21) (x6)).setCell (Ad B 22) (x7)).setCell (Ad B 23) (x8)).setCell (Ad B 24) (x9)).setCell (Ad B 25) (x10)).setCell (Ad B 26) (x11)).setCell (Ad B 27) (x12)).setCell (Ad B 28) (x13)).setCell (Ad B 29) (x14))∧CXS w0 U O Z B a l cap n v'∧(v' 15=x0∧v' 16=x1∧v' 17=x2∧v' 18=x3∧v' 19=x4∧v' 20=x5∧v' 21=x6∧v' 22=x7∧v' 23=x8∧v' 24=x9∧v' 25=x10∧v' 26=x11∧v' 27=x12∧v' 28=x13∧v' 29=x14)∧(∀j,(j<15∨30≤j)→v' j=v j)∧∀(x:Addr) (c:Value),x.block≠B→w.cell? x=some c→U.cell? x=some c:=by
 refine⟨_,(updV (updV (updV (updV (updV (updV (updV (updV (updV (updV (updV (updV (updV (updV (updV v 15 x0) 16 x1) 17 x2) 18 x3) 19 x4) 20 x5) 21 x6) 22 x7) 23 x8) 24 x9) 25 x10) 26 x11) 27 x12) 28 x13) 29 x14),rfl,(CXS.put (CXS.put (CXS.put (CXS.put (CXS.put (CXS.put (CXS.put (CXS.put (CXS.put (CXS.put (CXS.put (CXS.put (CXS.put (CXS.put (CXS.put h 15 x0) 16 x1) 17 x2) 18 x3) 19 x4) 20 x5) 21 x6) 22 x7) 23 x8) 24 x9) 25 x10) 26 x11) 27 x12) 28 x13) 29 x14),⟨by simp[updV],by simp[updV],by simp[updV],by simp[updV],by simp[updV],by simp[updV],by simp[updV],by simp[updV],by simp[updV],by simp[updV],by simp[updV],by simp[updV],by simp[updV],by simp[updV],by simp[updV]⟩,fun j hj=>?_,fun x c hb hx=>gset (gset (gset (gset (gset (gset (gset (gset (gset (gset (gset (gset (gset (gset (gset (hx) hb) hb) hb) hb) hb) hb) hb) hb) hb) hb) hb) hb) hb) hb) hb⟩
 unfold updV
 rw[if_neg (by omega),if_neg (by omega),if_neg (by omega),if_neg (by omega),if_neg (by omega),if_neg (by omega),if_neg (by omega),if_neg (by omega),if_neg (by omega),if_neg (by omega),if_neg (by omega),if_neg (by omega),if_neg (by omega),if_neg (by omega),if_neg (by omega)]
def AxAt(v:Nat→Value)(s:Nat):Prop:=∃(a0 a1 a2 a3 a4 a5 a6 a7 a8 a9 a10 a11 a14:Int) (p q:Option Addr) (m1 m2 k1 k2:Nat),(v (s+0)=Vi a0∧v (s+1)=Vi a1∧v (s+2)=Vi a2∧v (s+3)=Vi a3∧v (s+4)=Vi a4∧v (s+5)=Vi a5∧v (s+6)=Vi a6∧v (s+7)=Vi a7∧v (s+8)=Vi a8∧v (s+9)=Vi a9∧v (s+10)=Vi a10∧v (s+11)=Vi a11∧v (s+12)=.slice p m1 k1∧v (s+13)=.slice q m2 k2∧v (s+14)=Vi a14)∧AxOK a0 a1 a2 a3 a4 a5 a6 a7 a10
def AxFt(w:World)(K:Nat)(v:Nat→Value)(s:Nat):Prop:=∃(a0 a1 a2 a3 a4 a5 a6 a7 a8 a9 a10 a11 a14:Int) (G1 G2:Nat) (x y z:Int),(v (s+0)=Vi a0∧v (s+1)=Vi a1∧v (s+2)=Vi a2∧v (s+3)=Vi a3∧v (s+4)=Vi a4∧v (s+5)=Vi a5∧v (s+6)=Vi a6∧v (s+7)=Vi a7∧v (s+8)=Vi a8∧v (s+9)=Vi a9∧v (s+10)=Vi a10∧v (s+11)=Vi a11∧v (s+12)=.slice (some (Ad G1 0)) 2 2∧v (s+13)=.slice (some (Ad G2 0)) 2 2∧v (s+14)=Vi a14)∧AxK a0 a1 a2 a3 a4 a5 a6 a7 a8 a9 a10 a11 a14∧GL w G1 G2 x y z∧K<G1∧K<G2
theorem AxFt.at{v:Nat→Value}(h:AxFt w K v s):AxAt v s:=by
 obtain⟨a0,a1,a2,a3,a4,a5,a6,a7,a8,a9,a10,a11,a14,G1,G2,x,y,z,h,hk,_⟩:=h;exact⟨a0,a1,a2,a3,a4,a5,a6,a7,a8,a9,a10,a11,a14,_,_,_,_,_,_,h,hk.ok⟩
theorem GL.cells{G1 G2:Nat}{x y z:Int}(h:GL w G1 G2 x y z)(e:∀(q:Addr) (c:Value),(q.block=G1∨q.block=G2)→w.cell? q=some c→w'.cell? q=some c):GL w' G1 G2 x y z:=
 ⟨⟨e _ _ (Or.inl rfl) h.1.1,e _ _ (Or.inl rfl) h.1.2.1,e _ _ (Or.inr rfl) h.1.2.2.1,e _ _ (Or.inr rfl) h.1.2.2.2⟩,h.2⟩
theorem AxFt.low{v v':Nat→Value}(h:AxFt w K v s)(e:∀j,s≤j→j<s+15→v' j=v j)(c:∀(q:Addr) (c:Value),K<q.block→w.cell? q=some c→w'.cell? q=some c):AxFt w' K v' s:=by
 obtain⟨a0,a1,a2,a3,a4,a5,a6,a7,a8,a9,a10,a11,a14,G1,G2,x,y,z,⟨h0,h1,h2,h3,h4,h5,h6,h7,h8,h9,h10,h11,h12,h13,h14⟩,hk,hg,k1,k2⟩:=h;exact⟨a0,a1,a2,a3,a4,a5,a6,a7,a8,a9,a10,a11,a14,G1,G2,x,y,z,⟨(e (s+0) (by omega) (by omega)).trans h0,(e (s+1) (by omega) (by omega)).trans h1,(e (s+2) (by omega) (by omega)).trans h2,(e (s+3) (by omega) (by omega)).trans h3,(e (s+4) (by omega) (by omega)).trans h4,(e (s+5) (by omega) (by omega)).trans h5,(e (s+6) (by omega) (by omega)).trans h6,(e (s+7) (by omega) (by omega)).trans h7,(e (s+8) (by omega) (by omega)).trans h8,(e (s+9) (by omega) (by omega)).trans h9,(e (s+10) (by omega) (by omega)).trans h10,(e (s+11) (by omega) (by omega)).trans h11,(e (s+12) (by omega) (by omega)).trans h12,(e (s+13) (by omega) (by omega)).trans h13,(e (s+14) (by omega) (by omega)).trans h14⟩,hk,hg.cells (fun q y hq h=>c q y (by rcases hq with hq|hq<;>omega) h),k1,k2⟩
theorem AxFt.mono{K':Nat}{v:Nat→Value}(h:AxFt w K v s)(hk:K'≤K):AxFt w K' v s:=by
 obtain⟨a0,a1,a2,a3,a4,a5,a6,a7,a8,a9,a10,a11,a14,G1,G2,x,y,z,h,hx,hg,k1,k2⟩:=h;exact⟨a0,a1,a2,a3,a4,a5,a6,a7,a8,a9,a10,a11,a14,G1,G2,x,y,z,h,hx,hg,by omega,by omega⟩
theorem raw_of{a:Option Addr}{l:List Int}(h:ILs w a l):RawAt a l w.heap.size:=by
 intro b off e hl
 rcases h with h|⟨b',off',h,hc⟩
 · exact absurd h hl
 · rw[h] at e
   cases e
   have hp:0<l.length:=by cases l with|nil=>exact absurd rfl hl|cons _ _=>simp
   exact World.block_lt_of_cell? w ⟨b,off+0,none⟩ (hc 0 hp)
theorem cells0{v:Nat→Value}(h:CxV w B v):(Kc w B 0 (v 0)∧w.frozen? (Ad B 0)=false)∧(Kc w B 1 (v 1)∧w.frozen? (Ad B 1)=false)∧(Kc w B 2 (v 2)∧w.frozen? (Ad B 2)=false)∧(Kc w B 3 (v 3)∧w.frozen? (Ad B 3)=false)∧(Kc w B 4 (v 4)∧w.frozen? (Ad B 4)=false)∧(Kc w B 5 (v 5)∧w.frozen? (Ad B 5)=false)∧(Kc w B 6 (v 6)∧w.frozen? (Ad B 6)=false)∧(Kc w B 7 (v 7)∧w.frozen? (Ad B 7)=false)∧(Kc w B 8 (v 8)∧w.frozen? (Ad B 8)=false)∧(Kc w B 9 (v 9)∧w.frozen? (Ad B 9)=false)∧(Kc w B 10 (v 10)∧w.frozen? (Ad B 10)=false)∧(Kc w B 11 (v 11)∧w.frozen? (Ad B 11)=false)∧(Kc w B 12 (v 12)∧w.frozen? (Ad B 12)=false)∧(Kc w B 13 (v 13)∧w.frozen? (Ad B 13)=false)∧(Kc w B 14 (v 14)∧w.frozen? (Ad B 14)=false):=
 ⟨h 0 (by omega),h 1 (by omega),h 2 (by omega),h 3 (by omega),h 4 (by omega),h 5 (by omega),h 6 (by omega),h 7 (by omega),h 8 (by omega),h 9 (by omega),h 10 (by omega),h 11 (by omega),h 12 (by omega),h 13 (by omega),h 14 (by omega)⟩
theorem cells15{v:Nat→Value}(h:CxV w B v):(Kc w B 15 (v 15)∧w.frozen? (Ad B 15)=false)∧(Kc w B 16 (v 16)∧w.frozen? (Ad B 16)=false)∧(Kc w B 17 (v 17)∧w.frozen? (Ad B 17)=false)∧(Kc w B 18 (v 18)∧w.frozen? (Ad B 18)=false)∧(Kc w B 19 (v 19)∧w.frozen? (Ad B 19)=false)∧(Kc w B 20 (v 20)∧w.frozen? (Ad B 20)=false)∧(Kc w B 21 (v 21)∧w.frozen? (Ad B 21)=false)∧(Kc w B 22 (v 22)∧w.frozen? (Ad B 22)=false)∧(Kc w B 23 (v 23)∧w.frozen? (Ad B 23)=false)∧(Kc w B 24 (v 24)∧w.frozen? (Ad B 24)=false)∧(Kc w B 25 (v 25)∧w.frozen? (Ad B 25)=false)∧(Kc w B 26 (v 26)∧w.frozen? (Ad B 26)=false)∧(Kc w B 27 (v 27)∧w.frozen? (Ad B 27)=false)∧(Kc w B 28 (v 28)∧w.frozen? (Ad B 28)=false)∧(Kc w B 29 (v 29)∧w.frozen? (Ad B 29)=false):=
 ⟨h 15 (by omega),h 16 (by omega),h 17 (by omega),h 18 (by omega),h 19 (by omega),h 20 (by omega),h 21 (by omega),h 22 (by omega),h 23 (by omega),h 24 (by omega),h 25 (by omega),h 26 (by omega),h 27 (by omega),h 28 (by omega),h 29 (by omega)⟩
def CrLp(w:World)(O B:Nat)(a:Option Addr)(l:List Int)(cap:Nat)(ix:Value)(wr:World):Prop:=
 ∃v:Nat→Value,(∃x,v 30=Vi x∧0≤x∧x≤99)∧(∃x,v 31=Vi x∧1≤x∧x≤10)∧
  ((ix=Vi 0∧CXS w wr O w.heap.size B a l cap 2 v)∨(ix=Vi 1∧CXS w wr O w.heap.size B a l cap 24 v∧AxFt wr B v 0)∨(ix=Vi 2∧CXS w wr O w.heap.size B a l cap 46 v∧AxFt wr B v 0∧AxFt wr B v 15))
theorem Zid:∀(vs:List Value) (o:Nat) (w:World),Below K w0 w→K≤b→Below K w0 (w.setCells b o vs)
 |[],_,_,h,_=>h
 |v::r,o,w,h,hb=>Zid r (o+1) (w.setCell ⟨b,o,none⟩ v) (h.setCell (by simpa using hb) v) hb
theorem gsets{x:Addr}{c:Value}(hb:x.block≠b):∀(vs:List Value) (o:Nat) (w:World),w.cell? x=some c→(w.setCells b o vs).cell? x=some c
 |[],_,_,h=>h
 |v::r,o,w,h=>gsets hb r (o+1) (w.setCell ⟨b,o,none⟩ v) (gset h hb)
theorem range32{v:Nat→Value}(h:CxV w B v):w.rangeAt B 0 [v 0,v 1,v 2,v 3,v 4,v 5,v 6,v 7,v 8,v 9,v 10,v 11,v 12,v 13,v 14,v 15,v 16,v 17,v 18,v 19,v 20,v 21,v 22,v 23,v 24,v 25,v 26,v 27,v 28,v 29,v 30,v 31]:=by
 intro j x hx;have hj:j<32:=(List.getElem?_eq_some_iff.1 hx).1;rw[Nat.zero_add]
 rcases(show j=0∨j=1∨j=2∨j=3∨j=4∨j=5∨j=6∨j=7∨j=8∨j=9∨j=10∨j=11∨j=12∨j=13∨j=14∨j=15∨j=16∨j=17∨j=18∨j=19∨j=20∨j=21∨j=22∨j=23∨j=24∨j=25∨j=26∨j=27∨j=28∨j=29∨j=30∨j=31 by omega) with rfl|rfl|rfl|rfl|rfl|rfl|rfl|rfl|rfl|rfl|rfl|rfl|rfl|rfl|rfl|rfl|rfl|rfl|rfl|rfl|rfl|rfl|rfl|rfl|rfl|rfl|rfl|rfl|rfl|rfl|rfl|rfl<;>(obtain rfl:=Option.some.inj hx;exact(h _ (by omega)).1)
theorem res_craft(tmps:Array Value)(U:World)(Z:Nat)(cs:List Value)(h2:tmps.getD 2 undef=.pointer (some (Ad Z 0)))(hR:U.rangeAt Z 0 cs)(hn:cs.length=32):
 (results Tryz.f21 tmps).run prog U=.ok (.agg cs.toArray) U:=by
 have h3:tmps[2]?.getD undef=.pointer (some (Ad Z 0)):=by simpa using h2
 simp[results,results21,h3,asAddr,run_loadVar_mid U Z 0 29 cs _ hR underlying29 rfl (by rw[Zt,hn])]
theorem wpList_new{ops:Array Oper}{rest:List Oper}{op:Oper}{a:Act}{Q:Exit→Act→World→Prop}{c c':Array Value}(x y:Operand)(hgd:op.guard=none)(ho:op.op=.store 29 x y)(hx:a.eval x=.pointer (some (Ad w.heap.size 0)))(hy:a.eval y=.agg c')(hs:c'.size=32)(hc:c.size=c'.size)(h1:c'.all (·.oneCell')=true)(h:wpList prog ops Q rest (a.put op.dst undef) (w.alloc (.cells c' 29))):wpList prog ops Q (op::rest) a (w.alloc (.cells c 29)):=
 wpList_plain hgd fun _ hK=>by
  unfold Oper.wp execOp
  simp only[ho,hx,hy,Sem.run_bind,Sem.run_pure,Result.andThen_ok,run_storeAt_new w 29 c c' (by rw[Zt,hs]) hc h1];exact hK _ _ h
theorem craftFrom_full(a:Option Addr)(l:List Int)(cap:Nat)(hl:l.length≤100)(w:World)(hil:ILs w a l):
 Calls prog 21 #[.slice a l.length cap] w fun e w'=>(∃v:Nat→Value,e=.returned (.agg #[v 0,v 1,v 2,v 3,v 4,v 5,v 6,v 7,v 8,v 9,v 10,v 11,v 12,v 13,v 14,v 15,v 16,v 17,v 18,v 19,v 20,v 21,v 22,v 23,v 24,v 25,v 26,v 27,v 28,v 29,v 30,v 31])∧AxFt w' w.heap.size v 0∧AxFt w' w.heap.size v 15∧(∃x,v 30=Vi x∧0≤x∧x≤99)∧∃x,v 31=Vi x∧1≤x∧x≤10)∧Bw w w':=by
 have hraw:=raw_of hil
 have HD:Hid (Dc ((w.alloc (.cells Qaq 29)).alloc (.cells #[.slice a l.length cap,Vi 0] 154)) (w.heap.size+1) a l cap 0):=by
  refine Za ⟨⟨by simp[go_sem],by simp[go_sem]⟩,by simp[go_sem],hil.later (Zc (Zb _ _) (Zb _ _)),fun b off e hne=>?_⟩;have:=hraw b off e hne
  omega
 have HZ:Hid (CxV ((w.alloc (.cells Qaq 29)).alloc (.cells #[.slice a l.length cap,Vi 0] 154)) w.heap.size zC):=Za ((cx_zero w 29).later (Zb _ _));have HB:Hid (Bw w ((w.alloc (.cells Qaq 29)).alloc (.cells #[.slice a l.length cap,Vi 0] 154))):=Za (Zc (Zb _ _) (Zb _ _))
 go_enter func21,ntmps21
 go_upto_region 2 with fail;generalize (w.alloc (.cells Qaq 29)).alloc (.cells #[.slice a l.length cap,Vi 0] 154)=u1 at*
 have hO:w.heap.size<w.heap.size+1:=by omega
 obtain⟨O,hOO⟩:∃O,w.heap.size+1=O:=⟨_,rfl⟩;rw[hOO] at HD hO⊢
 have hb0:w.heap.size≤O:=by omega
 clear hOO;have TK1:Hid True:=trivial;have TK2:Hid True:=trivial
 go_upto_region 3 with(first
  |(refine Sq 29 _ _ rfl ?_;refine wpList_new (c':=#[Vi 0,Vi 0,Vi 0,Vi 0,Vi 0,Vi 0,Vi 0,Vi 0,Vi 0,Vi 0,Vi 0,Vi 0,.slice none 0 0,.slice none 0 0,Vi 0,Vi 0,Vi 0,Vi 0,Vi 0,Vi 0,Vi 0,Vi 0,Vi 0,Vi 0,Vi 0,Vi 0,Vi 0,.slice none 0 0,.slice none 0 0,Vi 0,Vi x,Vi (1+y)]) (.tmp 4) (.tmp 14) rfl rfl rfl rfl rfl rfl (Zn _ rfl) ?_)
  |((first|go_at_call_of 67 (Vi 100)|go_at_call_of 67 (Value.int .i64 100));clear TK1;refine(dN 100 hl HD.out).mono ?_;rintro e y0 ⟨⟨x,rfl,x0,x1⟩,hD,hK,hsz⟩;clear hsz;have HD:=Za hD;have HZ:=Za (HZ.out.dk hK (by omega));have HB:=Za (DK.below HB.out hK hb0 HB.out.size);clear hD hK)
  |((first|go_at_call_of 67 (Vi 10)|go_at_call_of 67 (Value.int .i64 10));clear TK2;refine(dN 10 hl HD.out).mono ?_;rintro e y1 ⟨⟨y,rfl,y0',y1'⟩,hD,hK,hsz⟩;clear hsz;have HD:=Za hD;have HZ:=Za (HZ.out.dk hK (by omega));have HB:=Za (DK.below HB.out hK hb0 HB.out.size);clear hD hK))
 have HX:Hid (CXS w (y1.alloc (.cells #[Vi 0,Vi 0,Vi 0,Vi 0,Vi 0,Vi 0,Vi 0,Vi 0,Vi 0,Vi 0,Vi 0,Vi 0,.slice none 0 0,.slice none 0 0,Vi 0,Vi 0,Vi 0,Vi 0,Vi 0,Vi 0,Vi 0,Vi 0,Vi 0,Vi 0,Vi 0,Vi 0,Vi 0,.slice none 0 0,.slice none 0 0,Vi 0,Vi x,Vi (1+y)] 29)) O w.heap.size y1.heap.size a l cap 2 (updV (updV zC 30 (Vi x)) 31 (Vi (1+y)))):=
  Za ⟨HD.out.later (Zb _ _),cx_new y1 x (1+y) 29,HZ.out.later (Zb _ _),Zc HB.out (Zb _ _),Nat.le_refl _,hO,HD.out.lt,hraw⟩
 have HV:Hid ((updV (updV zC 30 (Vi x)) 31 (Vi (1+y))) 30=Vi x∧(updV (updV zC 30 (Vi x)) 31 (Vi (1+y))) 31=Vi (1+y)):=Za ⟨rfl,rfl⟩;generalize (updV (updV zC 30 (Vi x)) 31 (Vi (1+y)))=v0 at *;generalize y1.alloc (.cells #[Vi 0,Vi 0,Vi 0,Vi 0,Vi 0,Vi 0,Vi 0,Vi 0,Vi 0,Vi 0,Vi 0,Vi 0,.slice none 0 0,.slice none 0 0,Vi 0,Vi 0,Vi 0,Vi 0,Vi 0,Vi 0,Vi 0,Vi 0,Vi 0,Vi 0,Vi 0,Vi 0,Vi 0,.slice none 0 0,.slice none 0 0,Vi 0,Vi x,Vi (1+y)] 29)=u2 at *;generalize y1.heap.size=B at *;have Hg:=Za (show(0≤x∧x≤99)∧1≤1+y∧1+y≤10 by omega);clear HD HZ HB x0 x1 y0' y1';go_wp2
 go_loopw [5] (fun ix wr=>CrLp w O B a l cap ix wr) (fun ix _=>2-(intOf ix).toNat)
 case atStart=>exact⟨v0,⟨_,HV.out.1,Hg.out.1⟩,⟨_,HV.out.2,Hg.out.2⟩,Or.inl ⟨rfl,HX.out⟩⟩
 case round=>
  clear HX HV Hg;obtain⟨v,⟨l30,hv30,hl30⟩,⟨l31,hv31,hl31⟩,hrel⟩:=hrel;have Ha:=Za hl30;have Hb:=Za hl31;clear hl30 hl31;have Hc:=Za hv30;have Hd:=Za hv31;clear hv30 hv31;rename World=>wr
  rcases hrel with⟨rfl,hX⟩|⟨rfl,hX,hA⟩|⟨rfl,hX,hA,hA2⟩
  · have HX:=Za hX;clear hX;have hraw2:RawAt a l wr.heap.size:=fun b off e hne=>Nat.lt_of_lt_of_le (hraw b off e hne) HX.out.2.2.2.1.size
    go_wp2_with (go_at_call 68;refine(axisFrom_any O a l cap 2 (by omega) hl _ HX.out.1 hraw2).mono ?_;rintro e y2 ⟨⟨a0,a1,a2,a3,a4,a5,a6,a7,a8,a9,a10,a11,a14,G1,G2,rfl,hax,⟨gz,gx,gy,hgl⟩,g1,g2⟩,hD,hK⟩;have HG:=Za (show GL y2 G1 G2 gz gx gy∧B<G1∧B<G2 from⟨hgl,Nat.lt_of_lt_of_le HX.out.2.1.lt g1,Nat.lt_of_lt_of_le HX.out.2.1.lt g2⟩);have Hh:=Za hK;have HX:=Za (CXS.dk HX.out hD hK);clear hD hK hgl g1 g2;(obtain⟨⟨c0,f0⟩,⟨c1,f1⟩,⟨c2,f2⟩,⟨c3,f3⟩,⟨c4,f4⟩,⟨c5,f5⟩,⟨c6,f6⟩,⟨c7,f7⟩,⟨c8,f8⟩,⟨c9,f9⟩,⟨c10,f10⟩,⟨c11,f11⟩,⟨c12,f12⟩,⟨c13,f13⟩,⟨c14,f14⟩⟩:=cells0 HX.out.2.1));obtain⟨U,v',hU,hXU,hv,hw,hoth⟩:=puts0 HX.out (Vi a0) (Vi a1) (Vi a2) (Vi a3) (Vi a4) (Vi a5) (Vi a6) (Vi a7) (Vi a8) (Vi a9) (Vi a10) (Vi a11) (.slice (some (Ad G1 0)) 2 2) (.slice (some (Ad G2 0)) 2 2) (Vi a14);rw[←hU];go_roundw
    case rel=>exact⟨v',⟨l30,(hw 30 (by omega)).trans Hc.out,Ha.out⟩,⟨l31,(hw 31 (by omega)).trans Hd.out,Hb.out⟩,Or.inr (Or.inl ⟨rfl,hXU,⟨a0,a1,a2,a3,a4,a5,a6,a7,a8,a9,a10,a11,a14,G1,G2,gz,gx,gy,hv,hax,HG.out.1.cells (fun q c hq h=>hoth q c (by have:=HG.out.2;rcases hq with hq|hq<;>omega) h),HG.out.2⟩⟩)⟩
    case measure=>simp[intOf]
  · have HX:=Za hX;have HA:=Za hA;clear hX hA;have hraw2:RawAt a l wr.heap.size:=fun b off e hne=>Nat.lt_of_lt_of_le (hraw b off e hne) HX.out.2.2.2.1.size
    go_wp2_with (go_at_call 68;refine(axisFrom_any O a l cap 24 (by omega) hl _ HX.out.1 hraw2).mono ?_;rintro e y2 ⟨⟨a0,a1,a2,a3,a4,a5,a6,a7,a8,a9,a10,a11,a14,G1,G2,rfl,hax,⟨gz,gx,gy,hgl⟩,g1,g2⟩,hD,hK⟩;have HG:=Za (show GL y2 G1 G2 gz gx gy∧B<G1∧B<G2 from⟨hgl,Nat.lt_of_lt_of_le HX.out.2.1.lt g1,Nat.lt_of_lt_of_le HX.out.2.1.lt g2⟩);have Hh:=Za hK;have HX:=Za (CXS.dk HX.out hD hK);clear hD hK hgl g1 g2;(obtain⟨⟨c0,f0⟩,⟨c1,f1⟩,⟨c2,f2⟩,⟨c3,f3⟩,⟨c4,f4⟩,⟨c5,f5⟩,⟨c6,f6⟩,⟨c7,f7⟩,⟨c8,f8⟩,⟨c9,f9⟩,⟨c10,f10⟩,⟨c11,f11⟩,⟨c12,f12⟩,⟨c13,f13⟩,⟨c14,f14⟩⟩:=cells15 HX.out.2.1));obtain⟨U,v',hU,hXU,hv,hw,hoth⟩:=puts15 HX.out (Vi a0) (Vi a1) (Vi a2) (Vi a3) (Vi a4) (Vi a5) (Vi a6) (Vi a7) (Vi a8) (Vi a9) (Vi a10) (Vi a11) (.slice (some (Ad G1 0)) 2 2) (.slice (some (Ad G2 0)) 2 2) (Vi a14);rw[←hU];go_roundw
    case rel=>exact⟨v',⟨l30,(hw 30 (by omega)).trans Hc.out,Ha.out⟩,⟨l31,(hw 31 (by omega)).trans Hd.out,Hb.out⟩,Or.inr (Or.inr ⟨rfl,hXU,HA.out.low (fun j _ hj=>hw j (by omega)) (fun q c hq h=>hoth q c (by omega) (Hh.out.cell (by have:=HX.out.2.2.2.2;omega) h)),⟨a0,a1,a2,a3,a4,a5,a6,a7,a8,a9,a10,a11,a14,G1,G2,gz,gx,gy,hv,hax,HG.out.1.cells (fun q c hq h=>hoth q c (by have:=HG.out.2;rcases hq with hq|hq<;>omega) h),HG.out.2⟩⟩)⟩
    case measure=>simp[intOf]
  · have HX:=Za hX;have HA:=Za hA;have Hi:=Za hA2;clear hX hA hA2;obtain⟨a0,a1,a2,a3,a4,a5,a6,a7,a8,a9,a10,a11,a14,p,q,m1,m2,k1,k2,⟨h0,h1,h2,h3,h4,h5,h6,h7,h8,h9,h10,h11,h12,h13,h14⟩,_⟩:=HA.out.at;obtain⟨b0,b1,b2,b3,b4,b5,b6,b7,b8,b9,b10,b11,b14,pp,qq,n1,n2,j1,j2,⟨h15,h16,h17,h18,h19,h20,h21,h22,h23,h24,h25,h26,h27,h28,h29⟩,_⟩:=Hi.out.at;simp only[Nat.zero_add] at h0 h1 h2 h3 h4 h5 h6 h7 h8 h9 h10 h11 h12 h13 h14;have h30:=Hc.out;have h31:=Hd.out;have hRB:=range32 HX.out.2.1;rw[h0,h1,h2,h3,h4,h5,h6,h7,h8,h9,h10,h11,h12,h13,h14,h15,h16,h17,h18,h19,h20,h21,h22,h23,h24,h25,h26,h27,h28,h29,h30,h31] at hRB
    have ht:wr.there w.heap.size 0 32:=fun j hj=>by
     have:=HX.out.2.2.1 j hj;rw[Nat.zero_add];exact⟨by rw[this.1];rfl,this.2⟩
    have HR:=Za (World.rangeAt_setCells_same wr w.heap.size 0 (Qai a0 a1 a2 a3 a4 a5 a6 a7 a8 a9 a10 a11 a14 b0 b1 b2 b3 b4 b5 b6 b7 b8 b9 b10 b11 b14 l30 l31 p q pp qq m1 k1 m2 k2 n1 j1 n2 j2) ht);have Hj:=Za (Zid (b:=w.heap.size) (Qai a0 a1 a2 a3 a4 a5 a6 a7 a8 a9 a10 a11 a14 b0 b1 b2 b3 b4 b5 b6 b7 b8 b9 b10 b11 b14 l30 l31 p q pp qq m1 k1 m2 k2 n1 j1 n2 j2) 0 wr HX.out.2.2.2.1 (Nat.le_refl _))
    have hWB:w.heap.size<B:=by have:=HX.out.2.2.2.2;omega
    have Hf:∀(qa:Addr) (ca:Value),B<qa.block→wr.cell? qa=some ca→(wr.setCells w.heap.size 0 (Qai a0 a1 a2 a3 a4 a5 a6 a7 a8 a9 a10 a11 a14 b0 b1 b2 b3 b4 b5 b6 b7 b8 b9 b10 b11 b14 l30 l31 p q pp qq m1 k1 m2 k2 n1 j1 n2 j2)).cell? qa=some ca:=fun qa ca hq=>gsets (b:=w.heap.size) (x:=qa) (c:=ca) (by omega) (Qai a0 a1 a2 a3 a4 a5 a6 a7 a8 a9 a10 a11 a14 b0 b1 b2 b3 b4 b5 b6 b7 b8 b9 b10 b11 b14 l30 l31 p q pp qq m1 k1 m2 k2 n1 j1 n2 j2) 0 wr;generalize hU1:wr.setCells w.heap.size 0 (Qai a0 a1 a2 a3 a4 a5 a6 a7 a8 a9 a10 a11 a14 b0 b1 b2 b3 b4 b5 b6 b7 b8 b9 b10 b11 b14 l30 l31 p q pp qq m1 k1 m2 k2 n1 j1 n2 j2)=U1 at Hf;have Hk:=Za hU1;clear hU1;have hAF:AxFt U1 B v 0:=AxFt.low (w:=wr) (w':=U1) (K:=B) (s:=0) (v:=v) (v':=v) HA.out (fun j _ _=>Eq.refl (v j)) Hf;have Hl:=Za (AxFt.mono hAF (Nat.le_of_lt hWB));clear hAF;have hAG:AxFt U1 B v 15:=AxFt.low (w:=wr) (w':=U1) (K:=B) (s:=15) (v:=v) (v':=v) Hi.out (fun j _ _=>Eq.refl (v j)) Hf;have Hm:=Za (AxFt.mono hAG (Nat.le_of_lt hWB));clear hAG;clear Hf;have HH:=Za (show(Value.agg #[Vi a0,Vi a1,Vi a2,Vi a3,Vi a4,Vi a5,Vi a6,Vi a7,Vi a8,Vi a9,Vi a10,Vi a11,.slice p m1 k1,.slice q m2 k2,Vi a14,Vi b0,Vi b1,Vi b2,Vi b3,Vi b4,Vi b5,Vi b6,Vi b7,Vi b8,Vi b9,Vi b10,Vi b11,.slice pp n1 j1,.slice qq n2 j2,Vi b14,Vi l30,Vi l31])=.agg #[v 0,v 1,v 2,v 3,v 4,v 5,v 6,v 7,v 8,v 9,v 10,v 11,v 12,v 13,v 14,v 15,v 16,v 17,v 18,v 19,v 20,v 21,v 22,v 23,v 24,v 25,v 26,v 27,v 28,v 29,v 30,v 31] by rw[h0,h1,h2,h3,h4,h5,h6,h7,h8,h9,h10,h11,h12,h13,h14,h15,h16,h17,h18,h19,h20,h21,h22,h23,h24,h25,h26,h27,h28,h29,h30,h31]);clear h0 h1 h2 h3 h4 h5 h6 h7 h8 h9 h10 h11 h12 h13 h14 h15 h16 h17 h18 h19 h20 h21 h22 h23 h24 h25 h26 h27 h28 h29 h30 h31
    go_wp2_with (first
     |(refine Lm 29 (.tmp 4) rfl B 0 (Qai a0 a1 a2 a3 a4 a5 a6 a7 a8 a9 a10 a11 a14 b0 b1 b2 b3 b4 b5 b6 b7 b8 b9 b10 b11 b14 l30 l31 p q pp qq m1 k1 m2 k2 n1 j1 n2 j2) hRB underlying29 Zt ?_)
     |(refine Sq 29 _ _ rfl ?_;refine wpList_store_mid rfl 29 (.tmp 2) (.tmp 24) rfl w.heap.size 0 #[Vi a0,Vi a1,Vi a2,Vi a3,Vi a4,Vi a5,Vi a6,Vi a7,Vi a8,Vi a9,Vi a10,Vi a11,.slice p m1 k1,.slice q m2 k2,Vi a14,Vi b0,Vi b1,Vi b2,Vi b3,Vi b4,Vi b5,Vi b6,Vi b7,Vi b8,Vi b9,Vi b10,Vi b11,.slice pp n1 j1,.slice qq n2 j2,Vi b14,Vi l30,Vi l31] rfl rfl ht Zt (Zn _ rfl) ?_))
    generalize wr.setCells w.heap.size 0 (Qai a0 a1 a2 a3 a4 a5 a6 a7 a8 a9 a10 a11 a14 b0 b1 b2 b3 b4 b5 b6 b7 b8 b9 b10 b11 b14 l30 l31 p q pp qq m1 k1 m2 k2 n1 j1 n2 j2)=U at *;obtain rfl:=Hk.out;refine bodyPost_ret (v:=.agg #[Vi a0,Vi a1,Vi a2,Vi a3,Vi a4,Vi a5,Vi a6,Vi a7,Vi a8,Vi a9,Vi a10,Vi a11,.slice p m1 k1,.slice q m2 k2,Vi a14,Vi b0,Vi b1,Vi b2,Vi b3,Vi b4,Vi b5,Vi b6,Vi b7,Vi b8,Vi b9,Vi b10,Vi b11,.slice pp n1 j1,.slice qq n2 j2,Vi b14,Vi l30,Vi l31]) ?_ rfl ⟨⟨v,by rw[HH.out],Hl.out,Hm.out,⟨_,Hc.out,Ha.out⟩,_,Hd.out,Hb.out⟩,Hj.out⟩;exact res_craft _ U w.heap.size (Qai a0 a1 a2 a3 a4 a5 a6 a7 a8 a9 a10 a11 a14 b0 b1 b2 b3 b4 b5 b6 b7 b8 b9 b10 b11 b14 l30 l31 p q pp qq m1 k1 m2 k2 n1 j1 n2 j2) rfl HR.out rfl
end Go.Proofs.YtnfdfiholcelaaaGreatDoor
