
import Derived.Test.YtnfdfiholcelaaaGreatDoorJp40
set_option maxRecDepth 100000
set_option maxHeartbeats 20000000
namespace Go.Proofs.YtnfdfiholcelaaaGreatDoor
open Go.RowKit Plain Tryz
theorem lay_later{u u':World}{p:Option Addr}{ys:List Value}(h:Lay u p ys)(hb:Bw u u'):Lay u' p ys:=by
 rcases h with h|⟨g,off,e,hr⟩
 · exact .inl h
 · exact .inr ⟨g,off,e,Zg hr hb⟩
theorem cr_no(C:CR){i:Nat}(hi:i<2):(crL C)[i*15+2]?=some (Vi (C.a i 2)):=by
 rcases Qtw i with rfl|rfl<;>rfl
theorem rflown_any(C:CR)(pf:Option Addr)(cf:Nat)(l:List Ft)(ps:Option Addr)(cs:Nat)(ss:List Stp)(hc:crE C=0)(hs:∀k,k<ss.length→SA C (stAt ss k))(hl:l.length≤20)(hn:ss.length≤300)(w:World)(hcr:CrL w C)(hF:Fts w pf l)(hS:Sts w ps ss):
 Calls prog 26 #[.agg (crL C).toArray,.agg #[.slice pf l.length cf,.slice ps ss.length cs]] w fun e w'=>(∃s,e=.returned s∧RpO w.heap.size w' s (rpU C l ss ss.length))∧Bw w w':=by
 have HO:=Za (refnew_c C hc);have HP:=Za (flU_gi (l:=l) hc hs);have HSS:=Za hs;have HCL:=Za (fun u (h:Bw w u)=>hcr.later h);have HQ:=Za (fun u (h:Bw w u)=>hF.later h);have HST:=Za (fun u (h:Bw w u)=>hS.later h);have Hi:=Za hc;have HK:=Za ((Blk.new w 29 (crL C)).later (Zb _ (.cells #[.slice pf l.length cf,.slice ps ss.length cs] 67)));have HF:Hid (Blk 67 ((w.alloc (.cells (crL C).toArray 29)).alloc (.cells #[.slice pf l.length cf,.slice ps ss.length cs] 67)) (w.heap.size+1) [.slice pf l.length cf,.slice ps ss.length cs]):=Za (by have:=Blk.new (w.alloc (.cells (crL C).toArray 29)) 67 [.slice pf l.length cf,.slice ps ss.length cs];rw[World.size_alloc] at this;exact this);have HB:=Za (Zc (Zb w (.cells (crL C).toArray 29)) (Zb _ (.cells #[.slice pf l.length cf,.slice ps ss.length cs] 67)));have Ho:Hid (w.heap.size≤w.heap.size∧w.heap.size<w.heap.size+1):=Za (by omega);clear hcr hF hS hs hc
 go_enter func26,ntmps26
 go_upto_region 1 with fail;generalize (w.alloc _).alloc _=v0 at *;generalize w.heap.size+1=QF at *;generalize hQC:w.heap.size=QC at HK⊢;have Ho:Hid (w.heap.size≤QC∧QC<QF):=Za (by rw[←hQC];exact Ho.out);clear hQC
 go_upto_region 2 with(first
  |(refine Lm 29 (.tmp 2) rfl QC 0 (crL C) HK.out.range underlying29 Zt ?_)
  |(go_at_call 69;refine(HO.out _).mono ?_;rintro e v1 ⟨⟨T,rfl,hT,hV⟩,hb⟩;replace HK:=Za (HK.out.later hb);replace HF:=Za (HF.out.later hb);replace HB:=Za (Zc HB.out hb);have HT:=Za hT;have HV:=Za hV;clear hb hT hV)
  |(refine Sq 41 _ _ rfl ?_;refine Ny (c':=(stL T).toArray) (.tmp 5) (.tmp 17) rfl rfl rfl rfl rfl rfl (stL_one T) ?_))
 have HA:=Zb v1 (.cells (stL T).toArray 41);have HC:Hid (Blk 41 (v1.alloc (.cells (stL T).toArray 41)) v1.heap.size (stL T)):=Za (Blk.new v1 _ _);have HR:Hid (QF<v1.heap.size):=Za HF.out.lt;have HS:Hid (SvN T v1.heap.size):=Za (fun i hi g o e=>Nat.ne_of_lt (vls_lt (HV.out i hi).2.2 (by have:=Z9 Hi.out hi;show 1≤(List.replicate (C.a i 4).toNat svD).length;rw[List.length_replicate];omega) g o e));replace HK:=Za (HK.out.later HA);replace HF:=Za (HF.out.later HA);replace HB:=Za (Zc HB.out HA);replace HV:=Za (HV.out.later HA);clear HA HO;generalize v1.alloc (.cells (stL T).toArray 41)=v2 at *;generalize v1.heap.size=QS at*
 go_upto_region 3 with fail;have HA:=Zb v2 (.cells (rpL rpD).toArray 95);have HU:Hid (Blk 95 (v2.alloc (.cells (rpL rpD).toArray 95)) v2.heap.size (rpL rpD)):=Za (Blk.new v2 _ _);have HQ2:Hid (QS<v2.heap.size):=Za HC.out.lt;have Hp:Hid (SvN T v2.heap.size):=Za (fun i hi g o e=>Nat.ne_of_lt (vls_lt (HV.out i hi).2.2 (by have:=Z9 Hi.out hi;show 1≤(List.replicate (C.a i 4).toNat svD).length;rw[List.length_replicate];omega) g o e));replace HV:=Za (HV.out.later HA);have Hj:Hid (FBx w (v2.alloc (.cells (rpL rpD).toArray 95)) QC QF QS v2.heap.size C [.slice pf l.length cf,.slice ps ss.length cs] T rpD):=Za ⟨HK.out.later HA,HF.out.later HA,HC.out.later HA,HU.out,Zc HB.out HA,Ho.out.1,Ho.out.2,HR.out,HQ2.out⟩
 show Code.wp _ _ _ _ (v2.alloc (.cells (rpL rpD).toArray 95))
 clear HA HK HF HC HU HB Ho HR;generalize v2.alloc _=v3 at *;generalize v2.heap.size=QR at*
 go_upto_region 5 with fail
 go_loopw [7,8] (fun rep ix wr=>∃(n:Nat) (T:FS) (R:Rp),n≤ss.length∧ix=Vi n∧SaS T (flU C l ss n).S∧SvL wr T (flU C l ss n).sv∧(SvN T QS∧SvN T QR)∧(∀i,i<2→R.x i=(flU C l ss n).x i∧∀k,k<4→R.a i k=(flU C l ss n).at' i k)∧FBx w wr QC QF QS QR C [.slice pf l.length cf,.slice ps ss.length cs] T R∧RpO (QR+1) wr rep (rpU C l ss n)) (fun _ ix _=>ss.length-(intOf ix).toNat)
 case atStart=>exact⟨0,T,_,by omega,rfl,HT.out,HV.out,⟨HS.out,Hp.out⟩,fun _ _=>⟨rfl,fun _ _=>rfl⟩,Hj.out,RpO.nil _ _⟩
 case round=>
  clear HT HV HS Hp Hj;obtain⟨n,T,R,hn2,rfl,hT,hV,hSN,hRX,hFB,hRP⟩:=hrel
  by_cases hlt:n<ss.length
  · obtain⟨b,off,rfl,hr⟩:=(HST.out wr hFB.b).at hlt;have Ht:Hid (flU C l ss (n+1)=stpF C l n (flU C l ss n) (stAt ss n)):=Za rfl;have HZ:Hid (rpU C l ss (n+1)=rpU C l ss n++[rpF (flU C l ss (n+1))]):=Za rfl;have HRL:Hid ((rpU C l ss n).length≤1000):=Za (by rw[rpU_len];omega);have HG:=Za (HP.out n hn2);have Hu:=Za (HSS.out n hlt);have HG1:=Za (HP.out (n+1) hlt);have H0:Hid (∀g,Value.ownBlock u7=some g→QR+1≤g∧g<wr.heap.size):=Za (fun g hg=>World.ownsRow.lt hRP g hg)
    have n0:(0:Int)≤(n:Int):=by omega
    have n1:(n:Int)<(ss.length:Int):=by omega
    rw[Ht.out] at HZ HG1;generalize flU C l ss n=q at *;generalize stAt ss n=s at *;have c0:=hr 0 _ rfl;have c1:=hr 1 _ rfl;have c2:=hr 2 _ rfl;have c3:=hr 3 _ rfl;have c4:=hr 4 _ rfl;have c5:=hr 5 _ rfl;have c6:=hr 6 _ rfl;have c7:=hr 7 _ rfl;simp only[Nat.add_zero] at c0;have xf:=(hFB.f.cell (j:=1) rfl).1;have Hq:Hid (QR<wr.heap.size):=Za hFB.r.lt;have HA:=Zb wr (.cells (stpL s).toArray 78);have HX:Hid (Blk 78 (wr.alloc (.cells (stpL s).toArray 78)) wr.heap.size (stpL s)):=Za (Blk.new wr _ _);have Hj:=Za (hFB.later HA);have H1:=Za (hV.later HA);have Hv:=Za (hRP.later HA);have HSN:=Za hSN;have HT:=Za hT;have HD:=Za hRX;have HSZ:Hid (wr.heap.size<(wr.alloc (.cells (stpL s).toArray 78)).heap.size):=Za HX.out.lt;have H2:Hid (wr.alloc (.cells #[Vi (s.k 0),Vi (s.k 1),Vi (s.p 0),Vi (s.p 1),Vi (s.z 0),Vi (s.z 1),Vi s.v,.bool s.g] 78)=wr.alloc (.cells (stpL s).toArray 78)):=Za rfl;clear hr hFB hV hRP hSN hT hRX HA
    go_upto_region 8 with fail;rw[H2.out];clear H2 c0 c1 c2 c3 c4 c5 c6 c7 xf;generalize wr.alloc (.cells (stpL s).toArray 78)=v0 at *;generalize wr.heap.size=QX at *;have HE:=Za (fun u (h:Bw v0 u)=>HQ.out u (Zc Hj.out.b h));have Hk:=Za (fun u (h:Bw v0 u)=>HX.out.later h);have Hl:=Za (fun u (h:Bw v0 u)=>Hj.out.later h);have H3:=Za (WOw.nil v0);have HH:=Za (axU_len C l n q.x q.at' s (fun i hi=>(Z9 Hi.out hi).1.2))
    go_upto_region 10 with fail
    go_loopw [10,11] (fun wv ix u=>∃i:Nat,i≤2∧ix=Vi i∧WOw v0 u wv (axU C l n q.x q.at' s i)) (fun _ ix _=>2-(intOf ix).toNat)
    case atStart=>exact⟨0,by omega,rfl,H3.out⟩
    case round=>
     clear H3;obtain⟨i,hi2,rfl,hw⟩:=hrel;rename World=>wi
     by_cases hi:i<2
     · have i0:(0:Int)≤(i:Int):=by omega
       have i1:(i:Int)<2:=by omega
       have HW:=Za hw;have hxz:=((Hk.out wi hw.2).cell (stpz_at s hi)).1;have Hw:Hid (0≤C.a i 2∧C.a i 2≤1000):=Za (by have g:=cr_gok Hi.out hi;have:=g.n0;have:=g.n1;omega);have H4:=Za (Hu.out.z i hi);have HXB:=Za (HG.out.x i hi);have H5:=Za (dig_bd (2*C.a i 2+1) (s.z i) (by have:=Hw.out;omega) H4.out.1);have H6:Hid (axU C l n q.x q.at' s (i+1)=axU C l n q.x q.at' s i++(chU l n i (C.a i 2) (q.x i) (s.z i) 3++suU i (q.at' i) (C.a i 4).toNat++[(32+(i:Int),3,3,s.k i)])):=Za rfl;have Hg:=Za (HH.out i (by omega));clear hw;generalize axU C l n q.x q.at' s i=ai at*
       go_upto_region 14 with fail;clear hxz
       go_loopw [10,12,13] (fun wv nz ix u=>∃k:Nat,k≤3∧ix=Vi k∧nz=Vi (dig (2*C.a i 2+1) (s.z i) k)∧WOw v0 u wv (ai++chU l n i (C.a i 2) (q.x i) (s.z i) k)) (fun _ _ ix _=>3-(intOf ix).toNat)
       case atStart=>exact⟨0,by omega,rfl,rfl,by rw[chU,List.append_nil];exact HW.out⟩
       case round=>
        clear HW;obtain⟨k,hk,rfl,rfl,hw⟩:=hrel;rename World=>wk
        by_cases hk3:k<3
        · have k0:(0:Int)≤(k:Int):=by omega
          have k1:(k:Int)<3:=by omega
          have Hb:=Za (Hl.out wk hw.2);have xf:=(Hb.out.f.cell (j:=0) rfl).1;have xr:=(Hb.out.r.cell (rp_x R hi)).1;rw[(HD.out i hi).1] at xr;have xN:=(Hb.out.c.cell (cr_no C hi)).1;have Hr:Hid (wk.rangeAt QC (i*15) (axL C i)):=Za (by have h:=Hb.out.c.sub (i*15) 15;rw[cr_axis C hi] at h;exact h);have hba:=base_any C i Hw.out.1 Hw.out.2;have hd:=H5.out k;have hN:=Hw.out;have hx:=HXB.out;have hz:=H4.out;have Hx:Hid (chU l n i (C.a i 2) (q.x i) (s.z i) (k+1)=chU l n i (C.a i 2) (q.x i) (s.z i) k++chR l n i k (1+i) (q.x i+noi (C.a i 2) (s.z i) k)):=Za rfl;have HDK:Hid (dig (2*C.a i 2+1) (s.z i) (k+1)=dig (2*C.a i 2+1) (s.z i) k/(2*C.a i 2+1)):=Za rfl;have H7:Hid (q.x i+noi (C.a i 2) (s.z i) k=q.x i+dig (2*C.a i 2+1) (s.z i) k%(2*C.a i 2+1)-C.a i 2):=Za (by unfold noi;omega);have hc1:=chR_len l n i k (1+i) (q.x i+noi (C.a i 2) (s.z i) k);have hc2:=chU_len l n i (C.a i 2) (q.x i) (s.z i) k;have hsd:=fun u (h:Bw v0 u)=>rsaid_any pf cf l n i k (1+i) (q.x i+noi (C.a i 2) (s.z i) k) (by omega) (by omega) (by omega) u (HE.out u h);rw[H7.out] at Hx hc1 hsd;have HW:=Za hw;clear hw H7;generalize chU l n i (C.a i 2) (q.x i) (s.z i) k=ck at *;generalize dig (2*C.a i 2+1) (s.z i) k=dg at *;generalize q.x i=xx at*
          have b0:0<2*C.a i 2+1:=by omega
          have m0:=Int.emod_nonneg dg (b:=2*C.a i 2+1) (by omega);have m1:=Int.emod_lt_of_pos dg b0;have htm:dg.tmod (2*C.a i 2+1)=dg%(2*C.a i 2+1):=Int.tmod_eq_emod_of_nonneg hd.1;have htd:dg.tdiv (2*C.a i 2+1)=dg/(2*C.a i 2+1):=Int.tdiv_eq_ediv_of_nonneg hd.1;generalize C.a i 2=N at *;generalize hBN:2*N+1=bN at *;generalize chR l n i k (1+i) (xx+dg%bN-N)=cr at *;generalize dg%bN=rm at *;have w1:=Wr (1+(i:Int));have w2:=Wr (xx+rm);have w3:=Wr (xx+rm-N)
          have bz:¬bN=0:=by omega
          have w7:IntKind.i64.wrap (dg/bN)=dg/bN:=Xo (by have:=Int.ediv_nonneg hd.1 (show 0≤bN by omega);omega) (by have:=Int.ediv_le_self bN hd.1;omega)
          go_upto_region 16 with fail;refine Ct [43,44,45,46,47,48,49,50,51,52,53,54,55,56,57,58,59,60,61,62,63,64,65,66,67,68,69] ?_;refine Cp 0 43 [] ?_;refine Cp 1 44 [] ?_;refine Cy (fun _ h=>cell_later h xf) 2 45 [1] ?_;refine Cp 3 46 [] ?_;refine Cp 4 47 [] ?_;refine Cp 5 48 [] ?_;refine Cp 6 49 [] ?_;refine Cp 7 50 [6] ?_;refine Cp 8 51 [] ?_;refine Cp 9 52 [] ?_;refine Cp 10 53 [8,9] ?_;refine Cy (fun _ h=>cell_later h xr) 11 54 [10] ?_;refine Cp 12 55 [] ?_;refine Cp 13 56 [] ?_;refine Cp 14 57 [] ?_;refine Cp 15 58 [13,14] ?_;refine Cr (x:=.tmp 58) 16 59 [15] (fun y w h hF=>⟨Zg Hr.out h,hF.1⟩) underlying26 Zs ?_;refine Cc 17 60 [16] (fun y w h _=>hba _) ?_;refine Cp 18 61 [12,17] ?_;refine Cp 19 62 [11,18] ?_;refine Cp 20 63 [] ?_;refine Cp 21 64 [] ?_;refine Cp 22 65 [20,21] ?_;refine Cp 23 66 [22] ?_;refine Cy (fun _ h=>cell_later h xN) 24 67 [23] ?_;refine Cp 25 68 [19,24] ?_;refine Cd 26 69 [2,3,4,5,7,25] (fun v u=>∃p c,v=.slice p cr.length c∧Lay u p ((cr.map pk1).flatMap wdL)) (fun y w h _=>(hsd _ (Zc HW.out.2 h)).mono (by rintro e w' ⟨⟨p,c,rfl,hy⟩,hb⟩;exact⟨_,rfl,⟨p,c,rfl,hy⟩,hb⟩)) (fun _ _ _ ⟨p,c,h1,h2⟩ hb=>⟨p,c,h1,lay_later h2 hb⟩) ?_;refine Cn 2 29 [27,28] (fun y u1 hB hf=>?_);obtain⟨p,c,e,hy⟩:=hf.1;simp only[e];have HY:=Za hy;replace HW:=Za (HW.out.later hB);clear hy e hf hB xf xr xN Hr hsd Hb;refine Ra 27 (fun K hK=>?_);rw[if_pos (by rfl)];refine wp_apV (.tmp 43) (.tmp 69) rfl rfl HW.out HY.out (by rw[List.length_append];have:=Hg.out;omega) (fun s9 u9 hW=>?_);replace HW:=Za hW;clear hW HY;refine hK.out _ _ trivial (fun _=>?_);clear hK K;refine Ra 28 (fun K hK=>?_);go_simp;refine hK.out _ _ trivial (fun _=>?_);clear hK K;refine Dn ?_;go_simp;generalize u9=v4 at HW⊢;refine Ek ?_;have Hr:Hid (v4.rangeAt QC (i*15) (axL C i)):=Za (by have h:=(Hl.out v4 HW.out.2).c.sub (i*15) 15;rw[cr_axis C hi] at h;exact h)
          go_wp2_with (first
           |(refine isLdT 26 _ rfl ?_;refine wpList_load_mid rfl 26 (.tmp 74) rfl QC (i*15) rfl (axL C i) _ Hr.out underlying26 rfl Zs ?_)
           |(go_at_call 74;refine Sb (hba _) fun v5 hb=>?_;replace HW:=Za (HW.out.later hb);clear hb Hr))
          go_roundw
          case rel=>exact⟨k+1,by omega,by go_num,by rw[HDK.out],by rw[Hx.out,←List.append_assoc];exact HW.out⟩
          case measure=>simp[intOf];omega
        · obtain rfl:k=3:=by omega
          have H8:Hid (∃m:Nat,C.a i 4=(m:Int)∧(C.a i 4).toNat=m∧m≤4):=Za ⟨(C.a i 4).toNat,by have:=Z9 Hi.out hi;omega,rfl,by have:=Z9 Hi.out hi;omega⟩;obtain⟨m,hm,hmt,hm4⟩:=H8.out;have hc2:=chU_len l n i (C.a i 2) (q.x i) (s.z i) 3;rw[hmt] at H6;have HW:=Za hw;have HMT:=Za hmt;clear hw H8 H5 hmt;generalize chU l n i (C.a i 2) (q.x i) (s.z i) 3=ck at*
          go_upto_region 19 with fail
          go_loopw [10,14] (fun wv ix u=>∃k:Nat,k≤m∧ix=Vi k∧WOw v0 u wv (ai++(ck++suU i (q.at' i) k))) (fun _ ix _=>m-(intOf ix).toNat)
          case atStart=>exact⟨0,by omega,rfl,by rw[suU,List.append_nil];exact HW.out⟩
          case round=>
           clear HW;obtain⟨k,hk,rfl,hw⟩:=hrel;rename World=>wj;have Hb:=Za (Hl.out wj hw.2);have xm:=(Hb.out.c.cell (cr_su C hi)).1;rw[hm] at xm;have hsl:=suU_len i (q.at' i) k
           by_cases hkm:k<m
           · have k0:(0:Int)≤(k:Int):=by omega
             have k1:(k:Int)<(m:Int):=by omega
             have k4:(k:Int)<4:=by omega
             have xa:=(Hb.out.r.cell (rp_a R hi (show k<4 by omega))).1;rw[(HD.out i hi).2 k (by omega)] at xa;have hwo:=Uu (16+4*(i:Int)+(k:Int)) 3 (q.at' i k) (X1 (by omega) (by omega) (by omega) (by have:=HG.out.at4 i hi k (by omega);omega));have HSK:Hid (suU i (q.at' i) (k+1)=suU i (q.at' i) k++[(16+4*(i:Int)+k,3,3,q.at' i k)]):=Za rfl;have HW:=Za hw;clear hw;generalize suU i (q.at' i) k=sk at *;generalize q.at' i k=ak at *;have w4:=Wr (4*(i:Int));have w5:=Wr (16+4*(i:Int));have w6:=Wr (16+4*(i:Int)+(k:Int))
             go_wp2_with (first
              |(go_at_call 55;refine Sb (hwo _) fun v5 hb=>?_;replace HW:=Za ((HW.out.later hb).later (Zb v5 (.cells #[.int .u32 (pk1 (16+4*(i:Int)+(k:Int),3,3,ak))] 136)));have Hd:=Za (lay_w1 v5 (16+4*(i:Int)+(k:Int),3,3,ak));clear hb xm xa)
              |(at_builtin;refine N7 (ns:=[(16+4*(i:Int)+(k:Int),3,3,ak)]) (.tmp 87) (.tmp 100) rfl rfl HW.out Hd.out (by rw[List.length_append,List.length_append,hsl];have:=Hg.out;simp only[List.length_cons,List.length_nil];omega) (fun s9 u9 hW=>?_);replace HW:=Za hW;clear hW))
             go_roundw
             case rel=>(repeat apply Exists.intro);exact⟨⟨k+1,by omega,by go_num,by rw[HSK.out,←List.append_assoc ck,←List.append_assoc ai];exact HW.out⟩,rfl⟩
             case measure=>simp[intOf];omega
           · obtain rfl:k=m:=by omega
             have xk:=((Hk.out wj hw.2).cell (stpk_at s hi)).1;have hwo:=Uu (32+(i:Int)) 3 (s.k i) (X1 (by omega) (by omega) (by omega) (by have:=Hu.out.k i hi;omega));have HW:=Za hw;clear hw;generalize suU i (q.at' i) k=sk at *;generalize s.k i=ak at *;have w4:=Wr (32+(i:Int))
             go_wp2_with (first
              |(go_at_call 55;refine Sb (hwo _) fun v5 hb=>?_;replace HW:=Za ((HW.out.later hb).later (Zb v5 (.cells #[.int .u32 (pk1 (32+(i:Int),3,3,ak))] 136)));have Hd:=Za (lay_w1 v5 (32+(i:Int),3,3,ak));clear hb xm xk)
              |(at_builtin;refine N7 (ns:=[(32+(i:Int),3,3,ak)]) (.tmp 102) (.tmp 110) rfl rfl HW.out Hd.out (by rw[List.length_append,List.length_append,hsl];have:=Hg.out;simp only[List.length_cons,List.length_nil];omega) (fun s9 u9 hW=>?_);replace HW:=Za hW;clear hW))
             go_roundw
             case rel=>exact⟨i+1,by omega,by go_num,by rw[H6.out,←List.append_assoc];exact HW.out⟩
             case measure=>simp[intOf];omega
     · obtain rfl:i=2:=by omega
       have HW:=Za hw;have Hg:=Za (HH.out 2 (by omega));have Hm:Hid (saR C l n q.x q.at' s=axU C l n q.x q.at' s 2++spR l n s.v 3++(if s.g then[(40,3,3,1)] else[])):=Za rfl;have HGM:=Za (HG.out.may (l:=l) (now:=n) Hu.out);clear hw HH;generalize axU C l n q.x q.at' s 2=ai at*
       go_upto_region 24 with fail
       go_loopw [10,15] (fun wv ix u=>∃k:Nat,k≤3∧ix=Vi k∧WOw v0 u wv (ai++spR l n s.v k)) (fun _ ix _=>3-(intOf ix).toNat)
       case atStart=>exact⟨0,by omega,rfl,by rw[spR,List.append_nil];exact HW.out⟩
       case round=>
        clear HW;obtain⟨k,hk,rfl,hw⟩:=hrel;rename World=>wk;have hc2:=spR_len l n s.v k;have xv:=((Hk.out wk hw.2).cell (show(stpL s)[6]?=some (Vi s.v) from rfl)).1;have xg:=((Hk.out wk hw.2).cell (show(stpL s)[7]?=some (.bool s.g) from rfl)).1
        by_cases hk3:k<3
        · have k0:(0:Int)≤(k:Int):=by omega
          have k1:(k:Int)<3:=by omega
          have xf:=((Hl.out wk hw.2).f.cell (j:=0) rfl).1;have Hx:Hid (spR l n s.v (k+1)=spR l n s.v k++chR l n 2 k 8 s.v):=Za rfl;have hc1:=chR_len l n 2 k 8 s.v;have hsd:=fun u (h:Bw v0 u)=>rsaid_any pf cf l n 2 k 8 s.v (by omega) (by omega) (by omega) u (HE.out u h);have HW:=Za hw;clear hw xg;generalize chR l n 2 k 8 s.v=cr at *;generalize spR l n s.v k=ck at*
          go_wp2_with (first
           |(go_at_call 73;refine(hsd _ HW.out.2).mono ?_;rintro e v5 ⟨⟨p,c,rfl,hy⟩,hb⟩;replace HW:=Za (HW.out.later hb);have Hd:=Za hy;clear hb hy xf xv hsd)
           |(at_builtin;refine N7 (.tmp 116) (.tmp 123) rfl rfl HW.out Hd.out (by rw[List.length_append];have:=Hg.out;omega) (fun s9 u9 hW=>?_);replace HW:=Za hW;clear hW))
          go_roundw
          case rel=>(repeat apply Exists.intro);exact⟨⟨k+1,by omega,by go_num,by rw[Hx.out,←List.append_assoc];exact HW.out⟩,rfl⟩
          case measure=>simp[intOf];omega
        · obtain rfl:k=3:=by omega
          have hwo:=Uu 40 3 1 (X1 (by omega) (by omega) (by omega) (by omega));have HW:=Za hw;clear hw xv;generalize spR l n s.v 3=ck at*
          cases hg:s.g
          case' false=>
           rw[hg] at xg
           go_upto_region 29 with fail;rw[hg,if_neg (by simp),List.append_nil] at Hm;rw[←Hm.out] at HW;generalize u10=wv at*
          case' true=>
           rw[hg] at xg
           go_upto_region 29 with(first
            |(go_at_call 55;refine Sb (hwo _) fun v5 hb=>?_;replace HW:=Za ((HW.out.later hb).later (Zb v5 (.cells #[.int .u32 (pk1 (40,3,3,1))] 136)));have Hd:=Za (lay_w1 v5 (40,3,3,1));clear hb)
            |(at_builtin;refine N7 (ns:=[(40,3,3,1)]) (.tmp 127) (.tmp 129) rfl rfl HW.out Hd.out (by rw[List.length_append];have:=Hg.out;simp only[List.length_cons,List.length_nil];omega) (fun wv wk hW=>?_);replace HW:=Za hW;clear hW Hd))
           rw[hg,if_pos rfl] at Hm;rw[←Hm.out] at HW
          all_goals
           clear xg hwo hg;obtain⟨a,c,hwe⟩:=HW.out.1.slice;rw[List.length_map] at hwe;subst hwe;have Ha:=Za (Hl.out wk HW.out.2);have H9:=Za (H1.out.later HW.out.2);have Hf:=Za (Hv.out.later HW.out.2);have Hn:=Za (Hk.out wk HW.out.2);have HWD:=Za (WdO.wds HW.out.1 (fun x hx=>by obtain⟨r,hr,rfl⟩:=List.mem_map.1 hx;exact pack_bd (HGM.out r hr)));have H64:Hid ((saR C l n q.x q.at' s).length≤64):=Za (by rw[Hm.out];have:=Hg.out;simp only[List.length_append,List.length_cons,List.length_nil];omega);have Hc:Hid (QX<wk.heap.size):=Za (Nat.lt_of_lt_of_le HSZ.out HW.out.2.size);have hst:=stepped_c C l n q s T HT.out HG.out.st a c H64.out;clear HW H1 Hv Hk HX Hj Hl HE Hm Hg hc2
           go_upto_region 30 with(first
            |(refine Lm 29 (.tmp 2) rfl QC 0 (crL C) Ha.out.c.range underlying29 Zt ?_)
            |(refine Lm 41 (.tmp 5) rfl QS 0 (stL T) Ha.out.s.range underlying41 (N3 T) ?_)
            |(go_at_call 15;refine(hst _ (HCL.out _ Ha.out.b) H9.out HWD.out).mono ?_;rintro e v7 ⟨⟨T',tv,rfl,hT',hV',hSP⟩,hb⟩;replace Ha:=Za (Ha.out.later hb);replace Hf:=Za (Hf.out.later hb);replace Hn:=Za (Hn.out.later hb);have HT':=Za hT';have Hh:=Za hV';have Hs:=Za hSP;clear hT' hV' hSP hb)
            |(refine Sq 41 _ _ rfl ?_;refine wpList_store_mid rfl 41 (.tmp 5) (.tmp 136) rfl QS 0 (stL T').toArray rfl rfl (Ha.out.s.there (Nat.le_of_ble_eq_true rfl)) Yk (stL_one T') ?_))
           have Hy:=Za Ha.out.n;have Hz:Oth v7 (v7.setCells QS 0 (stL T').toArray.toList) QS:=Oth.setCells _ 0 v7 (Oth.refl v7 QS);replace Ha:=Za (Ha.out.setS T');replace Hh:=Za (Hz.svl (Hs.out.svn (by have:=Hy.out;have:=Hq.out;have:=Hc.out;omega)) Hh.out);replace Hf:=Za (Hf.out.oth (by have:=Hy.out;omega) Hz);replace Hn:=Za (Hz.blk (by have:=Hy.out;have:=Hq.out;omega) Hn.out);clear Hz hst HWD H9 HT;generalize v7.setCells QS 0 (stL T').toArray.toList=v8 at *;have xf:=(Ha.out.f.cell (j:=0) rfl).1;have hre:=fun u (h:Bw v8 u)=>reported_c C pf cf l n q s T' R (by omega) (by omega) HT'.out HD.out HG.out Hu.out u (Hh.out.later h) (HQ.out u (Zc Ha.out.b h));generalize hRN:rpF (stpF C l n q s)=RN at *;have HRN:=Za hRN;clear hRN
           go_upto_region 31 with(first
            |(refine Lm 29 (.tmp 2) rfl QC 0 (crL C) Ha.out.c.range underlying29 Zt ?_)
            |(refine Lm 41 (.tmp 5) rfl QS 0 (stL T') Ha.out.s.range underlying41 (N3 T') ?_)
            |(refine Lm 95 (.tmp 6) rfl QR 0 (rpL R) Ha.out.r.range underlying95 Xu ?_)
            |(refine isLdT 78 _ rfl ?_;refine wpList_load_mid rfl 78 (.tmp 9) rfl QX 0 rfl (stpL s) _ Hn.out.range underlying78 rfl Ud ?_)
            |(go_at_call 75;refine Sb (hre _ (Below.refl _ _)) fun v9 hb=>?_;replace Ha:=Za (Ha.out.later hb);replace Hf:=Za (Hf.out.later hb);replace Hh:=Za (Hh.out.later hb);clear hb xf Hn)
            |(refine Sq 95 _ _ rfl ?_;refine wpList_store_mid rfl 95 (.tmp 6) (.tmp 145) rfl QR 0 (rpL RN).toArray rfl rfl (Ha.out.r.there (Nat.le_of_ble_eq_true rfl)) Xu (Zn _ rfl) ?_))
           have HI:Oth v9 (v9.setCells QR 0 (rpL RN).toArray.toList) QR:=Oth.setCells _ 0 v9 (Oth.refl v9 QR);replace Ha:=Za (Ha.out.setR RN);replace Hh:=Za (HI.svl (Hs.out.svn (by have:=Hq.out;have:=Hc.out;omega)) Hh.out);replace Hf:=Za (Hf.out.oth (Nat.lt_succ_self QR) HI);clear HI hre;generalize v9.setCells QR 0 (rpL RN).toArray.toList=v10 at *;have HJ:Hid (QR+1≤v10.heap.size):=Za Ha.out.r.lt;have Hd:=Za (lay_rp v10 RN);have hrl:=Ue RN;have HA:=Zb v10 (.cells (rpL RN).toArray 95);have HL:=Za (Ha.out.later HA);have HM:=Za (Hh.out.later HA);have HN:=Za (Hf.out.later HA);replace HJ:=Za (Nat.le_trans HJ.out HA.size);clear HA
           go_wp2_with (first
            |(refine Lm 95 (.tmp 6) rfl QR 0 (rpL RN) Ha.out.r.range underlying95 Xu ?_)
            |(at_builtin;rw[fold_rp];refine wpList_apP (.tmp 146) (.tmp 148) rfl rfl HN.out HJ.out Hd.out HRL.out (fun s' v11 h1 h2=>?_);replace HN:=Za h1;replace HL:=Za (HL.out.grew h2 (fun g e=>(H0.out g e).1));replace HM:=Za (HM.out.grew h2 (fun g e=>Hs.out.svn (by have:=(H0.out g e).2;have:=Hc.out;omega)));clear h1 h2))
           go_roundw
           case rel=>exact⟨n+1,T',RN,by omega,by go_num,by rw[Ht.out];exact HT'.out,by rw[Ht.out];exact HM.out,⟨Hs.out.svn (by have:=Hy.out;have:=Hq.out;have:=Hc.out;omega),Hs.out.svn (by have:=Hq.out;have:=Hc.out;omega)⟩,fun i _=>by rw[Ht.out,←HRN.out];exact⟨rfl,fun _ _=>rfl⟩,HL.out,by rw[HZ.out];exact HN.out⟩
           case measure=>simp[intOf];omega
  · obtain rfl:n=ss.length:=by omega
    have Hv:=Za hRP;have HBW:=Za hFB.b;have HQW:Hid (w.heap.size≤QR+1):=Za (by have:=hFB.n;omega);have xf:=(hFB.f.cell (j:=1) rfl).1;clear hT hV hSN hRX hFB hRP;go_wp2_with fail;go_ret;exact⟨⟨_,rfl,Hv.out.weak HQW.out⟩,HBW.out⟩
theorem longLines_c(C:CR):∃lo,∀u,Calls prog 11 #[.agg (crL C).toArray] u (Rt u (.bool lo)):=⟨_,longLines_any (C.a 0 0) (C.a 0 1) (C.a 0 2) (C.a 0 3) (C.a 0 4) (C.a 0 5) (C.a 0 6) (C.a 0 7) (C.a 0 8) (C.a 0 9) (C.a 0 10) (C.a 0 11) (C.a 0 14) (C.p 0) (C.q 0) (C.al 0).length (C.zl 0).length (C.cn 0) (C.cm 0) (C.a 1 0) (C.a 1 1) (C.a 1 2) (C.a 1 3) (C.a 1 4) (C.a 1 5) (C.a 1 6) (C.a 1 7) (C.a 1 8) (C.a 1 9) (C.a 1 10) (C.a 1 11) (C.a 1 14) (C.p 1) (C.q 1) (C.al 1).length (C.zl 1).length (C.cn 1) (C.cm 1) C.c0 C.c1⟩
theorem is_nil0(w:World):Calls prog 17 #[.nilIface,Vi 0] w (Re w (.bool true)):=is_any 0 0 w
theorem flySays_ok(C:CR)(pf:Option Addr)(cf:Nat)(l:List Ft)(ps:Option Addr)(cs:Nat)(ss:List Stp)(ok:FlOK C l ss)(w:World)(hg:GV w)(hcr:CrL w C)(hF:Fts w pf l)(hS:Sts w ps ss):
 Calls prog 5 #[.agg (crL C).toArray,.agg #[.slice pf l.length cf,.slice ps ss.length cs]] w (Rt w (.bool true)):=by
 obtain⟨lo,hll⟩:=longLines_c C;have hfm:=fun u (h:Bw w u)=>flightMay_any C pf cf l ps cs ss (by have:=ok.nl;omega) (by have:=ok.ns;omega) u (hcr.later h) (hF.later h) (hS.later h);rw[fmE_mk ok] at hfm;have Hf:=Za (fun u (h:Bw w u)=>rflown_any C pf cf l ps cs ss ok.cr ok.st ok.nl ok.ns u (hcr.later h) (hF.later h) (hS.later h));have Hg:=Za (fun u (h:Bw w u)=>fly_ok C pf cf l ps cs ss ok.cr ok.ft ok.st ok.nl ok.ns u (hg.later h) (hcr.later h) (hF.later h) (hS.later h));have Hh:=Za (fun u (h:Bw w u)=>hF.later h);have Hi:=Za (fun u (h:Bw w u)=>hS.later h);have Ha:=Za ok;have hn:=ok.ns;have hl:=ok.nl
 have n1:¬(30:Int)<(l.length:Int):=by omega
 have n2:¬(400:Int)<(ss.length:Int):=by omega
 have Hj:Hid ((rpU C l ss ss.length).length≤1000):=Za (by rw[rpU_len];omega);have HK:=Za ((Blk.new w 29 (crL C)).later (Zb _ (.cells #[.slice pf l.length cf,.slice ps ss.length cs] 67)));have HF:Hid (Blk 67 ((w.alloc (.cells (crL C).toArray 29)).alloc (.cells #[.slice pf l.length cf,.slice ps ss.length cs] 67)) (w.heap.size+1) [.slice pf l.length cf,.slice ps ss.length cs]):=Za (by have:=Blk.new (w.alloc (.cells (crL C).toArray 29)) 67 [.slice pf l.length cf,.slice ps ss.length cs];rw[World.size_alloc] at this;exact this);have HB:=Za (Zc (Zb w (.cells (crL C).toArray 29)) (Zb _ (.cells #[.slice pf l.length cf,.slice ps ss.length cs] 67)));have Hk:=Za hfm;clear hcr hF hS hg ok hfm
 go_enter func5,ntmps5
 go_upto_region 1 with fail;generalize (w.alloc _).alloc _=v0 at *;generalize w.heap.size+1=QF at *;generalize hQC:w.heap.size=QC at HK⊢;clear hQC;have x0:=(HF.out.cell (j:=0) rfl).1;have x1:=(HF.out.cell (j:=1) rfl).1
 cases lo
 case true=>
  go_wp2_with (first
   |(refine Lm 29 (.tmp 2) rfl QC 0 (crL C) HK.out.range underlying29 Zt ?_)
   |(go_at_call 11;refine Sb (hll _) fun v1 hb=>?_;replace HB:=Za (Zc HB.out hb);clear hb))
  go_ret;exact⟨rfl,HB.out⟩
 case false=>
  go_upto_region 3 with(first
   |(refine Lm 29 (.tmp 2) rfl QC 0 (crL C) HK.out.range underlying29 Zt ?_)
   |(go_at_call 11;refine Sb (hll _) fun v1 hb=>?_;replace HB:=Za (Zc HB.out hb);replace HK:=Za (HK.out.later hb);replace HF:=Za (HF.out.later hb);replace x0:=cell_later hb x0;replace x1:=cell_later hb x1;clear hb))
  clear hll x0 x1
  go_upto_region 4 with(first
   |(refine Lm 29 (.tmp 2) rfl QC 0 (crL C) HK.out.range underlying29 Zt ?_)
   |(refine isLdT 67 _ rfl ?_;refine wpList_load_mid rfl 67 (.tmp 3) rfl QF 0 rfl [.slice pf l.length cf,.slice ps ss.length cs] _ HF.out.range underlying67 rfl infoFl2 ?_)
   |(go_at_call 25;refine Sb (Hk.out _ HB.out) fun v2 hb=>?_;replace HB:=Za (Zc HB.out hb);replace HK:=Za (HK.out.later hb);replace HF:=Za (HF.out.later hb);clear hb))
  go_upto_region 7 with(first
   |(refine Lm 29 (.tmp 2) rfl QC 0 (crL C) HK.out.range underlying29 Zt ?_)
   |(refine isLdT 67 _ rfl ?_;refine wpList_load_mid rfl 67 (.tmp 3) rfl QF 0 rfl [.slice pf l.length cf,.slice ps ss.length cs] _ HF.out.range underlying67 rfl infoFl2 ?_)
   |(go_at_call 26;refine(Hf.out _ HB.out).mono ?_;rintro e v3 ⟨⟨s6,rfl,hR⟩,hb⟩;replace HB:=Za (Zc HB.out hb);replace HK:=Za (HK.out.later hb);replace HF:=Za (HF.out.later hb);have HR:=Za hR;clear hb hR))
  obtain⟨a6,c6,h6⟩:=HR.out.slice;subst h6;generalize v2.heap.size=K6 at*
  go_upto_region 8 with fail
  go_loopw [7] (fun ix wr=>∃k:Nat,k≤l.length∧ix=Vi k∧Blk 29 wr QC (crL C)∧Blk 67 wr QF [.slice pf l.length cf,.slice ps ss.length cs]∧RpO K6 wr (.slice a6 (rpU C l ss ss.length).length c6) (rpU C l ss ss.length)∧Bw w wr) (fun ix _=>l.length-(intOf ix).toNat)
  case atStart=>exact⟨0,by omega,rfl,HK.out,HF.out,HR.out,HB.out⟩
  case round=>
   clear HK HF HR HB;obtain⟨k,hk,rfl,hK,hF,hR,hB⟩:=hrel;have x0:=(hF.cell (j:=0) rfl).1
   by_cases hlt:k<l.length
   · obtain⟨b,off,rfl,hr⟩:=(Hh.out wr hB).at hlt;have hcf:=Zjg C (ftAt l k) (Ha.out.ft k hlt) (fun i hi=>(Z9 Ha.out.cr hi).1);have hfm:=faultMay_any C (ftAt l k);have HE:Hid (ftE C (ftAt l k)=0):=Za (by unfold ftE;rw[ftB_mk (Ha.out.ft k hlt)];rfl);rw[HE.out] at hfm
     have k0:(0:Int)≤(k:Int):=by omega
     have k1:(k:Int)<(l.length:Int):=by omega
     generalize ftAt l k=f at *;have HK:=Za hK;have HF:=Za hF;have HR:=Za hR;have HB:=Za hB;have Hb:=Za hr;clear hK hF hR hB hr HE
     go_upto_region 10 with fail;refine Cs [40,41,42,43,44,45,46,47,48,49,50,51,52,53,54,55] ?_;refine Cl (x:=.tmp 2) 0 40 [] (fun y w _ u hSw=>⟨Zg HK.out.range hSw,rfl⟩) underlying29 Zt ?_;refine Cp 1 41 [] ?_;refine Cq (fun _ h=>cell_later h x0) 2 42 [1] ?_;refine Cp 3 43 [] ?_;refine Cp 4 44 [2,3] ?_;refine Cl (x:=.tmp 44) 5 45 [4] (fun y w hF u hSw=>⟨Zg Hb.out hSw,hF.1⟩) underlying73 infoF5 ?_;refine Cc 6 46 [0,5] (fun y w h _=>hcf _) ?_;refine Cl (x:=.tmp 2) 7 47 [] (fun y w _ u hSw=>⟨Zg HK.out.range hSw,rfl⟩) underlying29 Zt ?_;refine Cp 8 48 [] ?_;refine Cq (fun _ h=>cell_later h x0) 9 49 [8] ?_;refine Cp 10 50 [] ?_;refine Cp 11 51 [9,10] ?_;refine Cl (x:=.tmp 51) 12 52 [11] (fun y w hF u hSw=>⟨Zg Hb.out hSw,hF.1⟩) underlying73 infoF5 ?_;refine Cc 13 53 [7,12] (fun y w h _=>hfm _) ?_;refine Cc 14 54 [6,13] (fun y w h _=>Z8 (is_nil0 _)) ?_;refine Cp 15 55 [14] ?_;refine Ce (fun y u1 hB hf=>?_);have Hc:=Za hB;clear hB hf;go_simp;have hB:=Hc.out;clear Hc x0;generalize u1=v6 at hB⊢;refine Ek ?_;replace HB:=Za (Zc HB.out hB);replace HK:=Za (HK.out.later hB);replace HF:=Za (HF.out.later hB);replace HR:=Za (HR.out.later hB);clear hB;go_wp2_with fail;go_roundw
     case rel=>exact⟨k+1,by omega,by go_num,HK.out,HF.out,HR.out,HB.out⟩
     case measure=>simp[intOf];omega
   · obtain rfl:k=l.length:=by omega
     have HK:=Za hK;have HF:=Za hF;have HR:=Za hR;have HB:=Za hB;clear hK hF hR hB
     go_upto_region 13 with fail;clear x0
     go_loopw [8] (fun ix wr=>∃k:Nat,k≤ss.length∧ix=Vi k∧Blk 29 wr QC (crL C)∧Blk 67 wr QF [.slice pf l.length cf,.slice ps ss.length cs]∧RpO K6 wr (.slice a6 (rpU C l ss ss.length).length c6) (rpU C l ss ss.length)∧Bw w wr) (fun ix _=>ss.length-(intOf ix).toNat)
     case atStart=>exact⟨0,by omega,rfl,HK.out,HF.out,HR.out,HB.out⟩
     case round=>
      clear HK HF HR HB;obtain⟨k,hk,rfl,hK,hF,hR,hB⟩:=hrel;rename World=>wq;have x0:=(hF.cell (j:=0) rfl).1;have x1:=(hF.cell (j:=1) rfl).1
      by_cases hlt:k<ss.length
      · obtain⟨b,off,rfl,hr⟩:=(Hi.out wq hB).at hlt;have h3:=fun i (hi:i<2)=>(Z9 Ha.out.cr hi).2;have hcf:=checkStep_ok C (stAt ss k) (Ha.out.st k hlt) h3;have hfm:=stepMay_any C (stAt ss k) h3;have HE:Hid (stpE C (stAt ss k)=0):=Za (by unfold stpE;rw[stpU_mk (Ha.out.st k hlt)];rfl);rw[HE.out] at hfm
        have k0:(0:Int)≤(k:Int):=by omega
        have k1:(k:Int)<(ss.length:Int):=by omega
        generalize stAt ss k=f at *;have HK:=Za hK;have HF:=Za hF;have HR:=Za hR;have HB:=Za hB;have Hb:=Za hr;clear hK hF hR hB hr HE x0 h3
        go_upto_region 15 with fail;refine Cs [63,64,65,66,67,68,69,70,71,72,73,74,75,76,77,78] ?_;refine Cl (x:=.tmp 2) 0 63 [] (fun y w _ u hSw=>⟨Zg HK.out.range hSw,rfl⟩) underlying29 Zt ?_;refine Cp 1 64 [] ?_;refine Cq (fun _ h=>cell_later h x1) 2 65 [1] ?_;refine Cp 3 66 [] ?_;refine Cp 4 67 [2,3] ?_;refine Cl (x:=.tmp 67) 5 68 [4] (fun y w hF u hSw=>⟨Zg Hb.out hSw,hF.1⟩) underlying78 Ud ?_;refine Cc 6 69 [0,5] (fun y w h _=>hcf _) ?_;refine Cl (x:=.tmp 2) 7 70 [] (fun y w _ u hSw=>⟨Zg HK.out.range hSw,rfl⟩) underlying29 Zt ?_;refine Cp 8 71 [] ?_;refine Cq (fun _ h=>cell_later h x1) 9 72 [8] ?_;refine Cp 10 73 [] ?_;refine Cp 11 74 [9,10] ?_;refine Cl (x:=.tmp 74) 12 75 [11] (fun y w hF u hSw=>⟨Zg Hb.out hSw,hF.1⟩) underlying78 Ud ?_;refine Cc 13 76 [7,12] (fun y w h _=>hfm _) ?_;refine Cc 14 77 [6,13] (fun y w h _=>Z8 (is_nil0 _)) ?_;refine Cp 15 78 [14] ?_;refine Ce (fun y u1 hB hf=>?_);have Hc:=Za hB;clear hB hf;go_simp;have hB:=Hc.out;clear Hc x1;generalize u1=v6 at hB⊢;refine Ek ?_;replace HB:=Za (Zc HB.out hB);replace HK:=Za (HK.out.later hB);replace HF:=Za (HF.out.later hB);replace HR:=Za (HR.out.later hB);clear hB;go_wp2_with fail;go_roundw
        case rel=>exact⟨k+1,by omega,by go_num,HK.out,HF.out,HR.out,HB.out⟩
        case measure=>simp[intOf];omega
      · obtain rfl:k=ss.length:=by omega
        have HK:=Za hK;have HR:=Za hR;have HB:=Za hB;clear hK hF hR hB
        go_upto_region 18 with(first
         |(refine Lm 29 (.tmp 2) rfl QC 0 (crL C) HK.out.range underlying29 Zt ?_)
         |(go_at_call 31;refine(Hg.out _ HB.out).mono ?_;rintro e v7 ⟨⟨s9,rfl,hR9⟩,hb⟩;replace HR:=Za (HR.out.later hb);replace HB:=Za (Zc HB.out hb);have Hd:=Za hR9;clear hR9 hb))
        obtain⟨a9,c9,h9⟩:=Hd.out.slice;subst h9;have hsr:=fun u (h:Bw v7 u)=>sameReports_s (rpU C l ss ss.length) a9 a6 c9 c6 Hj.out u _ _ (Hd.out.later h) (HR.out.later h);generalize (rpU C l ss ss.length).length=nn at*
        go_wp2_with (first
         |(go_at_call 17;refine Sm (is_nil0 _) ?_)
         |(go_at_call 32;refine Sb (hsr _ (Below.refl _ _)) fun v8 hb=>?_;replace HB:=Za (Zc HB.out hb);clear hb))
        go_ret;exact⟨rfl,HB.out⟩
theorem flyMade_walk(a1:Option Addr)(l1:List Int)(c1:Nat)(a2:Option Addr)(l2:List Int)(c2:Nat)(many:Int)(lo:Bool)(hm1:l1.length≤9223372036854775807)(hm2:l2.length≤9223372036854775807)(w:World)(hg:GV w)(hi1:ILs w a1 l1)(hi2:ILs w a2 l2):
 Calls prog 6 #[.slice a1 l1.length c1,.slice a2 l2.length c2,Vi many,.bool lo] w (Rt w (.bool true)):=by
 by_cases h1:(100:Int)<(l1.length:Int)
 · go_enter func6,ntmps6
   go_wp2;go_ret;exact⟨rfl,Below.refl _ _⟩
 by_cases h2:(100:Int)<(l2.length:Int)
 · go_enter func6,ntmps6
   go_wp2;go_ret;exact⟨rfl,Below.refl _ _⟩
 · have Hd:=Za (craftFrom_c a1 l1 c1 (by omega) w hi1);have hpk:=pick_any many 60 (by omega) (by omega);have e0:=Int.emod_nonneg many (b:=60) (by omega);have e1:=Int.emod_lt_of_pos many (b:=60) (by omega);obtain⟨m0,hm0⟩:∃m0:Nat,many%60=(m0:Int):=⟨(many%60).toNat,by omega⟩;rw[hm0] at hpk e1;clear hm0 e0
   go_enter func6,ntmps6
   go_upto_region 4 with(first
    |(go_at_call 21;refine Hd.out.mono ?_;rintro e v1 ⟨⟨C,rfl,hcr,hCL,_⟩,hb1⟩;have Hc:=Za hCL;have Hg:=Za hcr;have Hf:=Za hb1;clear hCL hcr hb1 Hd)
    |(refine isStoreT 29 _ _ rfl ?_;refine N4 (c':=(crL C).toArray) 29 32 Zt (.tmp 9) (.tmp 19) rfl rfl rfl rfl rfl rfl (Zn _ rfl) ?_))
   have HA:=Zb v1 (.cells (crL C).toArray 29);have HK:=Za (Blk.new v1 29 (crL C));have HB:=Za (Zc Hf.out HA);replace Hc:=Za (Hc.out.later HA);have HG:=Za (hg.later HB.out);have Hh:=Za (hi2.later HB.out);clear HA Hf hg hi1 hi2;generalize v1.alloc (.cells (crL C).toArray 29)=v2 at *;generalize v1.heap.size=QK at *;have Hi:=Za (fun u (h:Bw v2 u)=>flightFrom_any C Hg.out a2 l2 c2 m0 lo (by omega) (by omega) u (Hh.out.later h));refine Cs [20,21,22,23,24,25,26] ?_;refine Cl (x:=.tmp 9) 0 20 [] (fun y w _ u hSw=>⟨Zg HK.out.range hSw,rfl⟩) underlying29 Zt ?_;refine Cl (x:=.tmp 9) 1 21 [] (fun y w _ u hSw=>⟨Zg HK.out.range hSw,rfl⟩) underlying29 Zt ?_;refine Cp 2 22 [] ?_;refine Cp 3 23 [] ?_;refine Cc 4 24 [3] (fun y w h _=>Z8 (hpk _)) ?_;refine Cp 5 25 [] ?_;refine Cd 6 26 [1,2,4,5] (fun v u=>∃(pf:Option Addr) (cf:Nat) (ls:List Ft) (ps:Option Addr) (cs:Nat) (ss:List Stp),v=.agg #[.slice pf ls.length cf,.slice ps ss.length cs]∧FlOK C ls ss∧Fts u pf ls∧Sts u ps ss) (fun y w h _=>(Hi.out _ h).mono (by rintro e w' ⟨⟨pf,cf,ls,ps,cs,ss,rfl,h1,h2,h3⟩,hb⟩;exact⟨_,rfl,⟨pf,cf,ls,ps,cs,ss,rfl,h1,h2,h3⟩,hb⟩)) (fun _ _ _ ⟨pf,cf,ls,ps,cs,ss,e,h1,h2,h3⟩ hb=>⟨pf,cf,ls,ps,cs,ss,e,h1,h2.later hb,h3.later hb⟩) ?_;refine Cn 2 9 [7,8] (fun y u1 hB hf=>?_);obtain⟨pf,cf,ls,ps,cs,ss,e,hOK,hFT,hST⟩:=hf.1;simp only[e];have hfs:=flySays_ok C pf cf ls ps cs ss hOK u1 (HG.out.later hB) (Hc.out.later hB) hFT hST;have Ha:=Za (Zc HB.out hB);have Hb:=Za hB;clear e hOK hFT hST hB hf;refine Ra 7 (fun K hK=>?_);rw[if_pos (by rfl)]
   unfold Oper.wp
   rw[show(execOp _ _).run _ _=.ok (.enter 5 #[.agg (crL C).toArray,.agg #[.slice pf ls.length cf,.slice ps ss.length cs]]) u1 from(by go_simp),Oper.upon_enter];refine hfs.mono ?_;rintro e w' ⟨rfl,hb⟩;replace Ha:=Za (Zc Ha.out hb);replace Hb:=Za (Zc Hb.out hb);clear hb hfs;refine hK.out _ _ Hb.out (fun _=>?_);clear hK K;refine Ra 8 (fun K hK=>?_);go_simp;refine hK.out _ _ Hb.out (fun _=>?_);clear hK K;refine Dn ?_;go_simp;generalize w'=v4 at Ha⊢;refine Ek ?_;go_wp2_with fail;go_ret;exact⟨rfl,Ha.out⟩
end Go.Proofs.YtnfdfiholcelaaaGreatDoor
