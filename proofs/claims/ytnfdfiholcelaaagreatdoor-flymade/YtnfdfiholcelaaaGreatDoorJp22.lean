
import Derived.Test.YtnfdfiholcelaaaGreatDoorJp18
import Derived.Test.YtnfdfiholcelaaaGreatDoorJp21
set_option maxRecDepth 100000
set_option maxHeartbeats 20000000
namespace Go.Proofs.YtnfdfiholcelaaaGreatDoor
open Go.RowKit Plain Tryz
variable {B K P Y cap g n:Nat}{C:CR}{S:FS}{a:Option Addr}{cs:List Value}{e t:TypeId}{l:List Rd}{sv:Nat→List Sv}{u u' w wz:World}
theorem Zs:(prog.info? 26).map (·.size)=some 15:=by kernel_rfl
theorem Ub:(prog.info? 27).map (·.size)=some 30:=by kernel_rfl
theorem Xy{ops:Array Oper}{rest:List Oper}{op:Oper}{a:Act}{Q:Exit→Act→World→Prop}{c c':Array Value}(x y:Operand)(hgd:op.guard=none)(ho:op.op=.store 26 x y)(hx:a.eval x=.pointer (some (Ad w.heap.size 0)))(hy:a.eval y=.agg c')(hs:c'.size=15)(hc:c.size=c'.size)(h1:c'.all (·.oneCell')=true)(h:wpList prog ops Q rest (a.put op.dst undef) (w.alloc (.cells c' 26))):wpList prog ops Q (op::rest) a (w.alloc (.cells c 26)):=
 wpList_plain hgd fun _ hK=>by
  unfold Oper.wp execOp
  simp only[ho,hx,hy,Sem.run_bind,Sem.run_pure,Result.andThen_ok,run_storeAt_new w 26 c c' (by rw[Zs,hs]) hc h1];exact hK _ _ h
theorem axidx0(C:CR)(w:World):(Instr.index 27 (.agg (axL C 0++axL C 1).toArray) (Vi 0)).run prog w=.ok (.agg (axL C 0).toArray) w:=by kernel_rfl
theorem axidx1(C:CR)(w:World):(Instr.index 27 (.agg (axL C 0++axL C 1).toArray) (Vi 1)).run prog w=.ok (.agg (axL C 1).toArray) w:=by kernel_rfl
theorem speedRule_c(C:CR)(w:World):Calls prog 103 #[.agg (crL C).toArray] w (Rt w (.agg #[Vi C.c0,Vi C.c1])):=Ziv _ _ _ _ _ _ _ _ _ _ _ _ _ _ _ _ _ _ _ _ _ _ _ _ _ _ _ _ _ _ C.c0 C.c1 w
theorem voteBanks_ok{G:Nat→Nat}(hf:FR K wz w B S C a cap l sv G)(h2:Z5 (S.bk 2).b (S.bk 2).l C.c0 C.c1 (tS l 8) (sS l 8)=0)(h0:Z5 (S.bk 0).b (S.bk 0).l (C.a 0 8) (C.a 0 9) (tS l 1) (sS l 1)=0)(h1:Z5 (S.bk 1).b (S.bk 1).l (C.a 1 8) (C.a 1 9) (tS l 2) (sS l 2)=0):
 Calls prog 58 #[.pointer (some (Ad B 0))] w fun e w'=>e=.returned .nilIface∧FR K wz w' B ({ S with bk:=upd (upd (upd S.bk 2 (vbk (S.bk 2) C.c0 C.c1 (tS l 8) (sS l 8))) 0 (vbk (S.bk 0) (C.a 0 8) (C.a 0 9) (tS l 1) (sS l 1))) 1 (vbk (S.bk 1) (C.a 1 8) (C.a 1 9) (tS l 2) (sS l 2)) }:FS) C a cap l sv G:=by
 have HF:=Za hf;have HC:=Za (hf.blk.sub 30 32);rw[fr_craft] at HC;have hia:=axidx0 C;have hib:=axidx1 C;clear hf
 go_enter func58,ntmps58
 go_upto_region 2 with(first
  |(refine Lm 29 (.tmp 10) rfl B 30 (crL C) HC.out underlying29 Zt ?_)
  |(go_at_call 103;refine Sb (speedRule_c C _) fun r hb=>?_;have Hi:=Za (HF.out.later hb);clear hb HF HC)
  |(go_at_call 102;refine Sb (Mc Hi.out 2 (by omega) 8 C.c0 C.c1 h2) fun z hf=>?_;have Hf:Hid (FR K wz z B ({ S with bk:=upd S.bk 2 (vbk (S.bk 2) C.c0 C.c1 (tS l 8) (sS l 8)) }:FS) C a cap l sv G):=Za hf;clear hf Hi))
 have HX:=Za (Hf.out.blk.sub 30 30);rw[fr_axes] at HX
 go_upto_region 5 with(first
  |(refine Lm 27 (.tmp 20) rfl B 30 (axL C 0++axL C 1) HX.out underlying27 Ub ?_))
 clear HX;refine wp_loop_rounds 3 ?_;rw[rounds_succ];have Hg:Hid (Blk 26 (z.alloc (.cells (axL C 0).toArray 26)) z.heap.size (axL C 0)):=Za (Blk.new z _ (axL C 0));have Ha:=Za (Hf.out.later (Zb z (.cells (axL C 0).toArray 26)))
 go_upto_region 7 with(first
  |(refine Sq 26 _ _ rfl ?_;refine Xy (c':=(axL C 0).toArray) (.tmp 5) (.tmp 25) rfl rfl rfl rfl rfl rfl (Zn _ rfl) ?_))
 generalize z.alloc (.cells (axL C 0).toArray 26)=v0 at *;generalize z.heap.size=Q0 at Hg⊢;clear Hf
 go_wp2_with (first
  |(refine Lm 26 (.tmp 5) rfl Q0 0 (axL C 0) Hg.out.range underlying26 Zs ?_)
  |(go_at_call 104;refine Sb (Mf (C.a 0 0) (C.a 0 1) (C.a 0 2) (C.a 0 3) (C.a 0 4) (C.a 0 5) (C.a 0 6) (C.a 0 7) (C.a 0 8) (C.a 0 9) (C.a 0 10) (C.a 0 11) (C.a 0 14) (C.p 0) (C.q 0) (C.al 0).length (C.zl 0).length (C.cn 0) (C.cm 0) _) fun r0 hb=>?_;have Hb:=Za (Ha.out.later hb);clear hb Ha)
  |(go_at_call 102;refine Sb (Mc Hb.out 0 (by omega) 1 _ _ h0) fun z0 hf=>?_;have Hj:Hid (FR K wz z0 B ({ S with bk:=upd (upd S.bk 2 (vbk (S.bk 2) C.c0 C.c1 (tS l 8) (sS l 8))) 0 (vbk (S.bk 0) (C.a 0 8) (C.a 0 9) (tS l 1) (sS l 1)) }:FS) C a cap l sv G):=Za hf;clear hf Hb))
 clear Hg;rw[rounds_succ];have Hh:Hid (Blk 26 (z0.alloc (.cells (axL C 1).toArray 26)) z0.heap.size (axL C 1)):=Za (Blk.new z0 _ (axL C 1));have Hc:=Za (Hj.out.later (Zb z0 (.cells (axL C 1).toArray 26)))
 go_upto_region 7 with(first
  |(refine Sq 26 _ _ rfl ?_;refine Xy (c':=(axL C 1).toArray) (.tmp 5) (.tmp 25) rfl rfl rfl rfl rfl rfl (Zn _ rfl) ?_))
 generalize z0.alloc (.cells (axL C 1).toArray 26)=v1 at *;generalize z0.heap.size=Q1 at Hh⊢;clear Hj
 go_wp2_with (first
  |(refine Lm 26 (.tmp 5) rfl Q1 0 (axL C 1) Hh.out.range underlying26 Zs ?_)
  |(go_at_call 104;refine Sb (Mf (C.a 1 0) (C.a 1 1) (C.a 1 2) (C.a 1 3) (C.a 1 4) (C.a 1 5) (C.a 1 6) (C.a 1 7) (C.a 1 8) (C.a 1 9) (C.a 1 10) (C.a 1 11) (C.a 1 14) (C.p 1) (C.q 1) (C.al 1).length (C.zl 1).length (C.cn 1) (C.cm 1) _) fun r1 hb=>?_;have Hd:=Za (Hc.out.later hb);clear hb Hc)
  |(go_at_call 102;refine Sb (Mc Hd.out 1 (by omega) 2 _ _ h1) fun z1 hf=>?_;have Hk:Hid (FR K wz z1 B ({ S with bk:=upd (upd (upd S.bk 2 (vbk (S.bk 2) C.c0 C.c1 (tS l 8) (sS l 8))) 0 (vbk (S.bk 0) (C.a 0 8) (C.a 0 9) (tS l 1) (sS l 1))) 1 (vbk (S.bk 1) (C.a 1 8) (C.a 1 9) (tS l 2) (sS l 2)) }:FS) C a cap l sv G):=Za hf;clear hf Hd))
 clear Hh;rw[rounds_succ];go_wp2_with fail;go_ret;exact⟨rfl,Hk.out⟩
theorem Xz:(prog.info? 116).map (·.size)=some 3:=by kernel_rfl
theorem axidx(C:CR)(i:Nat)(hi:i<2)(w:World):(Instr.index 27 (.agg (axL C 0++axL C 1).toArray) (Vi (i:Int))).run prog w=.ok (.agg (axL C i).toArray) w:=by
 rcases Qtw i with rfl|rfl
 · exact axidx0 C w
 · exact axidx1 C w
def wsx(C:CR)(l:List Rd)(sv:Nat→List Sv)(i:Nat)(j:Nat):List Sv:=if j<i then wml C l j (sv j) (sv j).length else sv j
theorem wsx_zero(C:CR)(l:List Rd)(sv:Nat→List Sv):wsx C l sv 0=sv:=by funext j;simp[wsx]
theorem wsx_start(C:CR)(l:List Rd)(sv:Nat→List Sv)(i:Nat):upd (wsx C l sv i) i (wml C l i (sv i) 0)=wsx C l sv i:=by
 funext j
 by_cases e:j=i
 · subst e;rw[Zp,wml_zero];simp[wsx]
 · rw[Yn _ _ e]
theorem wsx_end(C:CR)(l:List Rd)(sv:Nat→List Sv)(i:Nat):upd (wsx C l sv i) i (wml C l i (sv i) (sv i).length)=wsx C l sv (i+1):=by
 funext j
 by_cases e:j=i
 · subst e;rw[Zp];simp[wsx]
 · rw[Yn _ _ e]
   unfold wsx
   by_cases h:j<i
   · rw[if_pos h,if_pos (by omega)]
   · rw[if_neg h,if_neg (by omega)]
theorem upd_upd{α:Type}(f:Nat→α)(i:Nat)(x y:α):upd (upd f i x) i y=upd f i y:=by
 funext j;unfold upd;split<;>rfl
theorem watchServos_ok{G:Nat→Nat}(hf:FR K wz w B S C a cap l (sv) G)(hl:∀i,i<2→(sv i).length≤9)(hs:∀i,i<2→∀k,k<(sv i).length→svE (C.a i 5) (C.a i 6) (C.a i 7) (C.a i 10) (svAt (sv i) k).1 (svAt (sv i) k).2.1 (svAt (sv i) k).2.2=0):
 Calls prog 59 #[.pointer (some (Ad B 0))] w fun e w'=>e=.returned .nilIface∧FR K wz w' B S C a cap l (wsx C l sv 2) G:=by
 have HF:=Za hf;have HL:=Za hl;have Ht:=Za hs;have HX:=Za (hf.blk.sub 30 30);rw[fr_axes] at HX;clear hf hl hs
 go_enter func59,ntmps59
 go_upto_region 2 with(first
  |(refine Lm 27 (.tmp 12) rfl B 30 (axL C 0++axL C 1) HX.out underlying27 Ub ?_))
 clear HX
 go_loopw [14] (fun ix wr=>∃i:Nat,i≤2∧ix=Vi i∧FR K wz wr B S C a cap l (wsx C l sv i) G) (fun ix _=>2-(intOf ix).toNat)
 case atStart=>exact⟨0,by omega,rfl,by rw[wsx_zero];exact HF.out⟩
 case round=>
  obtain⟨i,hi2,rfl,hfr⟩:=hrel;clear HF
  by_cases hi:i<2
  · have Hu:=Za hfr;have hidx:=axidx C i hi
    have i0:(0:Int)≤(i:Int):=by omega
    have i1:(i:Int)<2:=by omega
    obtain⟨n,hn⟩:∃n,n=(sv i).length:=⟨_,rfl⟩;have Hl:Hid (Blk 26 (wr.alloc (.cells (axL C i).toArray 26)) wr.heap.size (axL C i)):=Za (Blk.new wr _ (axL C i));have Hf:=Za (hfr.later (Zb wr (.cells (axL C i).toArray 26)));clear hfr
    go_upto_region 4 with(first
     |(refine Sq 26 _ _ rfl ?_;refine Xy (c':=(axL C i).toArray) (.tmp 4) (.tmp 17) rfl rfl rfl rfl rfl rfl (Zn _ rfl) ?_))
    generalize wr.alloc (.cells (axL C i).toArray 26)=v0 at *;generalize wr.heap.size=QA at Hl⊢;clear Hu;have hsv:=(Hf.out.blk.cell (Uz S C _ hi)).1;have hsp:S.sp i=some (Ad (G i) 0):=(Hf.out.servo i hi).1
    have hsn:S.sn i=n:=by rw[hn];have:=(Hf.out.servo i hi).2.1;simpa[wsx] using this
    rw[hsp,hsn] at hsv;clear hsp hsn
    go_upto_region 5 with fail;clear hsv
    go_loopw [26] (fun ix wr=>∃k:Nat,k≤n∧ix=Vi k∧FR K wz wr B S C a cap l (upd (wsx C l sv i) i (wml C l i (sv i) k)) G∧Blk 26 wr QA (axL C i)) (fun ix _=>n-(intOf ix).toNat)
    case atStart=>exact⟨0,Nat.zero_le _,rfl,by rw[wsx_start];exact Hf.out,Hl.out⟩
    case round=>
     obtain⟨k,hk,rfl,hfr,hax⟩:=hrel;clear Hf Hl;have hsp:S.sp i=some (Ad (G i) 0):=(hfr.servo i hi).1
     have hsn:S.sn i=n:=by have:=(hfr.servo i hi).2.1;rwa[Zp,Ws,←hn] at this
     have hn9:n≤9:=by rw[hn];exact HL.out i hi
     by_cases hlt:k<n
     · have g:=(hfr.servo i hi).2.2.1.sub (k*3) 3;rw[Zp,svL_at _ k (by rw[Ws];omega),wml_at _ _ _ _ (by omega)] at g;have c0:wr.cell? (Ad (G i) (k*3))=some (Vi (svAt (sv i) k).1):=g 0 _ rfl;have c1:wr.cell? (Ad (G i) (k*3+1))=some (Vi (svAt (sv i) k).2.1):=g 1 _ rfl;have c2:wr.cell? (Ad (G i) (k*3+2))=some (.bool (svAt (sv i) k).2.2):=g 2 _ rfl;have h0:=Ht.out i hi k (by omega);have Hn:=Za (rfl:wv C l i k (svAt (sv i) k)=wv C l i k (svAt (sv i) k));have hul:=Nw 16 (i:Int) (k:Int) (by omega) (by omega) (by omega);have Hv:Hid (0≤(16+4*(i:Int)+(k:Int))):=Za (by omega)
       unfold wv at Hn
       have hwa0:=fun st sz=>watch_ok (C.a i 5) (C.a i 6) (C.a i 7) (C.a i 10) (svAt (sv i) k).1 (svAt (sv i) k).2.1 (svAt (sv i) k).2.2 st sz h0;have hwa:=hwa0 (smp l (16+4*(i:Int)+(k:Int)) 3).1 (smp l (16+4*(i:Int)+(k:Int)) 3).2;obtain⟨ni,nb,no,HNI⟩:∃ni nb no,Hid (wv C l i k (svAt (sv i) k)=(ni,nb,no)):=⟨_,_,_,Za rfl⟩;have e1:wI (C.a i 7) (C.a i 10) (svAt (sv i) k).1 (svAt (sv i) k).2.1 (smp l (16+4*(i:Int)+(k:Int)) 3).2 (svAt (sv i) k).2.2 (smp l (16+4*(i:Int)+(k:Int)) 3).1=ni:=congrArg (·.1) HNI.out;have e2:wB (C.a i 7) (svAt (sv i) k).1 (svAt (sv i) k).2.1 (smp l (16+4*(i:Int)+(k:Int)) 3).2 (svAt (sv i) k).2.2 (smp l (16+4*(i:Int)+(k:Int)) 3).1=nb:=congrArg (·.2.1) HNI.out;have e3:wO (C.a i 7) (C.a i 10) (svAt (sv i) k).1 (svAt (sv i) k).2.1 (smp l (16+4*(i:Int)+(k:Int)) 3).2 (svAt (sv i) k).2.2 (smp l (16+4*(i:Int)+(k:Int)) 3).1=no:=congrArg (·.2.2) HNI.out;rw[e1,e2,e3] at hwa;clear e1 e2 e3 hwa0 Hn h0 g Hv;obtain⟨si,sb,so,HSI⟩:∃si sb so,Hid ((svAt (sv i) k).1=si∧(svAt (sv i) k).2.1=sb∧(svAt (sv i) k).2.2=so):=⟨_,_,_,Za ⟨rfl,rfl,rfl⟩⟩;rw[HSI.out.1] at c0;rw[HSI.out.2.1] at c1;rw[HSI.out.2.2] at c2;simp only[HSI.out.1,HSI.out.2.1,HSI.out.2.2] at hwa;obtain⟨st,sz,HST⟩:∃st sz,Hid ((smp l (16+4*(i:Int)+(k:Int)) 3).1=st∧(smp l (16+4*(i:Int)+(k:Int)) 3).2=sz):=⟨_,_,Za ⟨rfl,rfl⟩⟩;simp only[HST.out.1,HST.out.2] at hwa
       have k0:(0:Int)≤(k:Int):=by omega
       have k1:(k:Int)<(n:Int):=by omega
       have Hd:=Za (hfr.later (Zb wr (.cells #[Vi si,Vi sb,.bool so] 116)));have Hc:=Za (hax.later (Zb wr (.cells #[Vi si,Vi sb,.bool so] 116)));have HP:Hid (Blk 116 (wr.alloc (.cells #[Vi si,Vi sb,.bool so] 116)) wr.heap.size [Vi si,Vi sb,.bool so]):=Za (Blk.new wr _ [Vi si,Vi sb,.bool so]);clear hfr hax
       go_upto_region 7 with fail;clear c0 c1 c2;generalize wr.alloc (.cells #[Vi si,Vi sb,.bool so] 116)=w0 at *;generalize wr.heap.size=P6 at HP⊢;have d0:=(HP.out.cell (j:=0) rfl).1;have d1:=(HP.out.cell (j:=1) rfl).1;have d2:=(HP.out.cell (j:=2) rfl).1;have Ho:=Za Hc.out.range;have hru:=Nt (C.a i 0) (C.a i 1) (C.a i 2) (C.a i 3) (C.a i 4) (C.a i 5) (C.a i 6) (C.a i 7) (C.a i 8) (C.a i 9) (C.a i 10) (C.a i 11) (C.a i 14) (C.p i) (C.q i) (C.al i).length (C.zl i).length (C.cn i) (C.cm i)
       have hsy:∀u,Bw w0 u→Calls prog 107 #[.pointer (some (Ad B 0)),Vi (16+4*(i:Int)+(k:Int)),Vi 3] u (Rt u (.agg #[.bool st,Vi sz])):=fun u h=>by
        have:=Uk B a cap l (16+4*(i:Int)+(k:Int)) 3 Hd.out.many u (cell_later h Hd.out.said) (Hd.out.rds.later h)
        rwa[HST.out.1,HST.out.2] at this
       clear HP;refine Cs [32,33,34,35,36,37,38,39,40,31,41,42,7] ?_;refine Cl (x:=.tmp 4) 0 32 [] (fun y w _ u hSw=>⟨Zg Ho.out hSw,rfl⟩) underlying26 Zs ?_;refine Cc 1 33 [0] (fun y w h _=>hru _) ?_;refine Cq (fun _ h=>And.intro (cell_later h d0) (And.intro (cell_later h d1) (cell_later h d2))) 2 34 [] ?_;refine Cp 3 35 [] ?_;refine Cp 4 36 [] ?_;refine Cp 5 37 [] ?_;refine Cc 6 38 [4,5] (fun y w h _=>Z8 (hul _)) ?_;refine Cc 7 39 [3,6] (fun y w h _=>hsy _ h) ?_;refine Cc 8 40 [1,2,7] (fun y w h _=>hwa _) ?_;refine Cp 9 31 [8] ?_;refine Cp 10 41 [9] ?_;refine Cp 11 42 [9] ?_;refine Ca 12 7 ?_;refine Cn 2 15 [13,14] (fun y u1 hB hf=>?_);obtain⟨XA,e,hA⟩:=hf.1;have Hb:Hid (NB _ _ _ XA [Vi 0,Vi 0,.bool false]):=Za hA;(try simp only[e]);clear e hA;have Hh:=Za hB;clear hB hf;refine Ra 13 (fun K hK=>?_);rw[if_pos (by rfl)];refine Yi 116 (.tmp 7) (.tmp 41) rfl XA 0 #[Vi ni,Vi nb,.bool no] rfl rfl (Hb.out.1.there (Nat.le_of_ble_eq_true rfl)) Xz (Zn _ rfl) rfl ?_;have Hi:=Za (Zr [Vi ni,Vi nb,.bool no] 0 u1 Hh.out (NB.le Hb.out));have Hg:Hid (NB 116 w0.heap.size (u1.setCells XA 0 [Vi ni,Vi nb,.bool no]) XA [Vi ni,Vi nb,.bool no]):=Za ⟨Blk.setCells [Vi ni,Vi nb,.bool no] 0 u1 [Vi 0,Vi 0,.bool false] Hb.out.1,NB.le Hb.out⟩;generalize hU:World.setCells _ XA 0 _=u2 at *;clear hU;refine hK.out _ _ Hi.out (fun _=>?_);clear hK K;clear Hh Hb;refine Tq 14 Hi.out ?_;(try simp only[Act.put]);refine Dn ?_;go_simp;have hA:=Hg.out;have hB:=Hi.out;clear Hg Hi;generalize u2=v at hA hB⊢;clear d0 d1 d2 hru hul hsy hwa;refine Ek ?_;have Hp:=Za (Hd.out.later hB)
       have Hj:Hid (XA≠G i∧B≠G i∧QA≠G i):=Za ⟨by
        have h1:=NB.le hA;have h2:=(Hd.out.servo i hi).2.2.1.lt
        omega,(Hd.out.servo i hi).2.2.2.2.1.symm,fun e=>by
        have h1:=Hc.out;have h2:=(Hd.out.servo i hi).2.2.1;rw[e] at h1
        unfold Blk at h1 h2
        rw[h1] at h2
        simp at h2⟩
       have Hq:=Za hA.1;have Hr:=Za (Hc.out.later hB);clear hA hB Hd Hc Ho
       go_upto_region 10 with fail;have Hk:=Za (Hp.out.later (Below.refl _ _).drew);have HT:Hid (World.there v.drew (G i) (k*3) 3):=Za ((Hk.out.servo i hi).2.2.1.there (by rw[Wg,Zp,Ws];omega))
       have Hs:Hid (World.rangeAt v.drew XA 0 [Vi ni,Vi nb,.bool no]∧World.cell? v.drew ⟨B,21+i,none⟩=some (.slice (some (Ad (G i) 0)) n (S.sc i))):=Za ⟨(Hq.out.later (Below.refl _ _).drew).range,by
        have:=(Hk.out.blk.cell (Uz S C _ hi)).1
        rwa[hsp,hsn] at this⟩
       have HX:=Za (And.intro Hj.out.1 Hj.out.2.1)
       have Hm:Hid (FR K wz (World.setCells v.drew (G i) (k*3) [Vi ni,Vi nb,.bool no]) B S C a cap l (upd (wsx C l sv i) i (wml C l i (sv i) (k+1))) G):=by
        have h:=Hk.out.putServo hi (k:=k) (by rw[Zp,Ws];omega) (ni,nb,no);rw[Zp,upd_upd,←HNI.out,wml_step,HNI.out] at h;exact Za h
       have Hw:=Za (Blk.farCells Hj.out.2.2 [Vi ni,Vi nb,.bool no] (k*3) _ (Hr.out.later (Below.refl _ _).drew));clear Hp Hq Hk Hr Hj;refine wp_region_held_drew (S:=fun u=>(u.rangeAt XA 0 [Vi ni,Vi nb,.bool no]∧u.cell? (Ad B (21+i))=some (.slice (some (Ad (G i) 0)) n (S.sc i)))) (by kernel_rfl) (Hs.out) (fun _=>?_);have Ha:Hid ((v.drew.rangeAt XA 0 [Vi ni,Vi nb,.bool no]∧v.drew.cell? (Ad B (21+i))=some (.slice (some (Ad (G i) 0)) n (S.sc i)))):=Za (Hs.out);refine Tq 0 Ha.out ?_;simp only[Act.put,Ly];refine Tq 1 Ha.out ?_;simp only[Act.put,Ly];refine Tq 2 Ha.out ?_;simp only[Act.put,Ly];refine Tq 3 Ha.out ?_;simp only[Act.put,Ly];refine Tq 4 Ha.out ?_;simp only[Act.put,Ly];refine Tq 5 Ha.out ?_;simp only[Act.put,Ly];refine Th 6 rfl (by intro w hSw;(try dsimp only at hSw);have y:=hSw.2;clear hSw;go_simp;(try with_reducible rfl)) Ha.out ?_;simp only[Act.put,Ly];refine Tq 7 Ha.out ?_;simp only[Act.put,Ly];refine Tk 8 rfl (yieldsIf_load_mid (by rfl) 116 (.tmp 7) rfl XA 0 rfl [Vi ni,Vi nb,.bool no] _ (fun w hSw=>hSw.1) underlying116 rfl Xz) Ha.out ?_;simp only[Act.put,Ly];refine Tq 9 Ha.out ?_;simp only[Act.put,Ly];refine Ra 10 (fun K hK=>?_);rw[if_pos (by rfl)];refine Yi 116 (.tmp 55) (.tmp 54) rfl (G i) (k*3) #[Vi ni,Vi nb,.bool no] rfl rfl (HT.out) Xz (Zn _ rfl) rfl ?_;have Hh:=Za (And.intro (World.rangeAt_setCells_apart Ha.out.1 (G i) (k*3) [Vi ni,Vi nb,.bool no] (.inl HX.out.1)) (W6 HX.out.2 [Vi ni,Vi nb,.bool no] (k*3) _ Ha.out.2));refine hK.out _ _ Hh.out (fun _=>?_);clear hK K;refine Dn ?_;go_simp;refine Ek ?_;go_wp2_with fail;go_roundw
       case rel=>exact⟨k+1,by omega,by go_num,Hm.out,Hw.out⟩
       case measure=>simp[intOf];omega
     · obtain rfl:k=n:=by omega
       clear hsp hsn;go_wp2_with fail;go_roundw
       case rel=>exact⟨i+1,by omega,by go_num,by rw[←wsx_end,←hn];exact hfr⟩
       case measure=>simp[intOf];omega
  · obtain rfl:i=2:=by omega
    go_wp2_with fail;go_ret;exact⟨rfl,hfr⟩
theorem infoH3:(prog.info? 128).map (·.size)=some 3:=by kernel_rfl
theorem putL_len:∀(vs cs:List Value) (o:Nat),(putL cs o vs).length=cs.length
 |[],_,_=>rfl
 |v::r,cs,o=>by rw[putL,putL_len r,List.length_set]
theorem hS_later(hb:Bw u u')(h:Bw w u∧∃cs:List Value,cs.length=3∧Blk t u Y cs):Bw w u'∧∃cs:List Value,cs.length=3∧Blk t u' Y cs:=
 ⟨Zc h.1 hb,h.2.elim fun cs k=>⟨cs,k.1,k.2.later hb⟩⟩
theorem hS_put(hY:w.heap.size≤Y)(vs:List Value)(o:Nat)(h:Bw w u∧∃cs:List Value,cs.length=3∧Blk t u Y cs):Bw w (u.setCells Y o vs)∧∃cs:List Value,cs.length=3∧Blk t (u.setCells Y o vs) Y cs:=
 ⟨Zr vs o u h.1 hY,h.2.elim fun cs k=>⟨_,by rw[putL_len];exact k.1,Blk.setCells vs o u cs k.2⟩⟩
theorem res_health(tmps:Array Value)(U:World)(Y:Nat)(cs:List Value)(h2:tmps.getD 4 undef=.pointer (some (Ad Y 0)))(hR:U.rangeAt Y 0 cs)(hn:cs.length=3):
 (results Tryz.f109 tmps).run prog U=.ok (.agg cs.toArray) U:=by
 have h3:tmps[4]?.getD undef=.pointer (some (Ad Y 0)):=by simpa using h2
 simp[results,results109,h3,asAddr,run_loadVar_mid U Y 0 128 cs _ hR underlying128 rfl (by rw[infoH3,hn])]
theorem health_ok{G:Nat→Nat}(hf:FR K wz w B S C a cap l sv G)(i:Nat)(hi:i<2)(hl:(sv i).length≤9):
 Calls prog 109 #[.pointer (some (Ad B 0)),Vi i] w (Rt w (.agg #[Vi (Zq (S.bk i).o 3),Vi (sndU (sv i) (sv i).length),Vi (C.a i 4)])):=by
 have hlf:=left_any (S.bk i).b (S.bk i).o (S.bk i).l;have hsv:=(hf.blk.cell (Uz S C _ hi)).1;have hsf:=(hf.blk.cell (fr_surf S C _ hi)).1;rw[(hf.servo i hi).1,(hf.servo i hi).2.1] at hsv;have HG:=Za (hf.blk.sub (i*7) 7);rw[fr_bank S C _ (show i<3 by omega)] at HG;have hvl:=hf.vls hi;rw[(hf.servo i hi).1] at hvl;have hsd:=fun u (h:Bw w u)=>sound_any (sv i) (some (Ad (G i) 0)) (S.sc i) (by omega) u (hvl.later h);obtain⟨lf,sd,HE⟩:∃lf sd,Hid (Zq (S.bk i).o 3=lf∧sndU (sv i) (sv i).length=sd):=⟨_,_,Za ⟨rfl,rfl⟩⟩;simp only[HE.out.1] at hlf;simp only[HE.out.2] at hsd;rw[HE.out.1,HE.out.2]
 have i0:(0:Int)≤(i:Int):=by omega
 have i1:(i:Int)<2:=by omega
 have i2:(i:Int)<3:=by omega
 have Hd:Hid (Bw w (w.alloc (.cells #[Vi 0,Vi 0,Vi 0] 128))∧∃cs:List Value,cs.length=3∧Blk 128 (w.alloc (.cells #[Vi 0,Vi 0,Vi 0] 128)) w.heap.size cs):=Za ⟨Zb _ _,[Vi 0,Vi 0,Vi 0],rfl,Blk.new w _ [Vi 0,Vi 0,Vi 0]⟩;have HY:Hid (w.heap.size≤w.heap.size):=Za (Nat.le_refl _);clear hf hvl HE hi hl
 go_enter func109,ntmps109
 go_upto_region 1 with fail;generalize w.alloc (.cells #[Vi 0,Vi 0,Vi 0] 128)=v at *;have Hf:Hid (Bw w v.drew∧∃cs:List Value,cs.length=3∧Blk 128 v.drew w.heap.size cs):=Za (And.intro Hd.out.1.drew (Hd.out.2.elim fun cs h=>⟨cs,h.1,h.2.later (Below.refl _ _).drew⟩));clear Hd;refine wp_region_held_drew (S:=fun u=>(Bw w u∧∃cs:List Value,cs.length=3∧Blk 128 u w.heap.size cs)) (by kernel_rfl) (Hf.out) (fun _=>?_);have Ha:Hid ((Bw w v.drew∧∃cs:List Value,cs.length=3∧Blk 128 v.drew w.heap.size cs)):=Za (Hf.out);refine Tq 0 Ha.out ?_;simp only[Act.put,Ly];refine Tq 1 Ha.out ?_;simp only[Act.put,Ly];refine Tq 2 Ha.out ?_;simp only[Act.put,Ly];refine Tq 3 Ha.out ?_;simp only[Act.put,Ly];refine Tq 4 Ha.out ?_;simp only[Act.put,Ly];refine Tq 5 Ha.out ?_;simp only[Act.put,Ly];refine Tk 6 rfl (yieldsIf_load_mid (by rfl) 33 (.tmp 10) rfl B (i*7) rfl [Vi ((S.bk i).b 0),Vi ((S.bk i).b 1),Vi ((S.bk i).b 2),.bool ((S.bk i).o 0),.bool ((S.bk i).o 1),.bool ((S.bk i).o 2),Vi (S.bk i).l] _ (fun w hSw=>Zg HG.out hSw.1) underlying33 rfl Xd) Ha.out ?_;simp only[Act.put,Ly];refine Tq 8 Ha.out ?_;simp only[Act.put,Ly];refine Tq 9 Ha.out ?_;simp only[Act.put,Ly];refine Tq 10 Ha.out ?_;simp only[Act.put,Ly];refine Tq 11 Ha.out ?_;simp only[Act.put,Ly];refine Tq 12 Ha.out ?_;simp only[Act.put,Ly];refine Tq 13 Ha.out ?_;simp only[Act.put,Ly];refine Th 14 rfl (by intro w hSw;(try dsimp only at hSw);have y:=cell_later hSw.1 hsv;clear hSw;go_simp;(try with_reducible rfl)) Ha.out ?_;simp only[Act.put,Ly];refine Tq 16 Ha.out ?_;simp only[Act.put,Ly];refine Tq 17 Ha.out ?_;simp only[Act.put,Ly];refine Tq 18 Ha.out ?_;simp only[Act.put,Ly];refine Tq 19 Ha.out ?_;simp only[Act.put,Ly];refine Tq 20 Ha.out ?_;simp only[Act.put,Ly];refine Tq 21 Ha.out ?_;simp only[Act.put,Ly];refine Tq 22 Ha.out ?_;simp only[Act.put,Ly];refine Th 23 rfl (by intro w hSw;(try dsimp only at hSw);have y:=cell_later hSw.1 hsf;clear hSw;go_simp;(try with_reducible rfl)) Ha.out ?_;simp only[Act.put,Ly];refine Ra 7 (fun K hK=>?_);go_simp;refine Sb (hlf _) fun u1 hb=>?_;have Hc:=Za (hS_later hb Ha.out);clear hb;go_wp2_with fail;refine hK.out _ _ Hc.out (fun _=>?_);clear hK K
 refine Ra 15 (fun K hK=>?_);go_simp;refine Sb (hsd _ Hc.out.1) fun u2 hb=>?_;have Hb:=Za (hS_later hb Hc.out);clear hb;go_wp2_with fail;refine hK.out _ _ Hb.out (fun _=>?_);clear hK K;clear Hc;refine Tq 24 Hb.out ?_;simp only[Act.put,Ly];refine Ra 25 (fun K hK=>?_);rw[if_pos (by rfl)];refine Yi 128 (.tmp 4) (.tmp 29) rfl w.heap.size (0) #[Vi lf,Vi sd,Vi (C.a i 4)] rfl rfl (by obtain⟨cs,h1,h2⟩:=Hb.out.2;exact h2.there (by rw[h1];exact Nat.le_refl _)) infoH3 (Zn _ rfl) rfl ?_;have Hg:=Za (hS_put HY.out [Vi lf,Vi sd,Vi (C.a i 4)] 0 Hb.out);have Hh:=Za (World.rangeAt_setCells_same _ w.heap.size 0 [Vi lf,Vi sd,Vi (C.a i 4)] (by obtain⟨cs,h1,h2⟩:=Hb.out.2;exact h2.there (by rw[h1];exact Nat.le_refl _)));have Hi:=Za (Zr [Vi lf,Vi sd,Vi (C.a i 4)] 0 _ Hb.out.1 HY.out);refine hK.out _ _ Hg.out (fun _=>?_);clear hK K;clear Hb;refine Dn ?_;go_simp;refine Ek ?_;go_wp2_with fail;exact bodyPost_ret (v:=.agg #[Vi lf,Vi sd,Vi (C.a i 4)]) (res_health _ _ w.heap.size [Vi lf,Vi sd,Vi (C.a i 4)] rfl Hh.out rfl) rfl ⟨rfl,Hi.out⟩
theorem infoK5:(prog.info? 110).map (·.size)=some 5:=by kernel_rfl
theorem Uo(hb:Bw u u')(h:Bw w u∧∃cs:List Value,cs.length=5∧Blk t u Y cs):Bw w u'∧∃cs:List Value,cs.length=5∧Blk t u' Y cs:=
 ⟨Zc h.1 hb,h.2.elim fun cs k=>⟨cs,k.1,k.2.later hb⟩⟩
theorem hA_put(hY:w.heap.size≤Y)(vs:List Value)(o:Nat)(h:Bw w u∧∃cs:List Value,cs.length=5∧Blk t u Y cs):Bw w (u.setCells Y o vs)∧∃cs:List Value,cs.length=5∧Blk t (u.setCells Y o vs) Y cs:=
 ⟨Zr vs o u h.1 hY,h.2.elim fun cs k=>⟨_,by rw[putL_len];exact k.1,Blk.setCells vs o u cs k.2⟩⟩
theorem field_is(x0 x1:Value)(w:World):(Instr.field 131 (.agg #[x0,x1]) 1).run prog w=.ok x1 w:=by kernel_rfl
theorem res_ask(tmps:Array Value)(U:World)(Y:Nat)(cs:List Value)(h2:tmps.getD 4 undef=.pointer (some (Ad Y 0)))(hR:U.rangeAt Y 0 cs)(hn:cs.length=5):
 (results Tryz.f166 tmps).run prog U=.ok (.agg cs.toArray) U:=by
 have h3:tmps[4]?.getD undef=.pointer (some (Ad Y 0)):=by simpa using h2
 simp[results,results166,h3,asAddr,run_loadVar_mid U Y 0 110 cs _ hR underlying110 rfl (by rw[infoK5,hn])]
theorem ask_ok{G:Nat→Nat}(hf:FR K wz w B S C a cap l sv G)(i:Nat)(hi:i<2)(hl:(sv i).length≤9)(hs:∀k,k<(sv i).length→-2147483647≤(svAt (sv i) k).1∧(svAt (sv i) k).1≤2147483647)(h4:2≤C.a i 4∧C.a i 4≤4)(h5:1≤C.a i 5∧C.a i 5≤1000)(h3:0≤C.a i 3∧C.a i 3≤1000)(h7:0≤C.a i 7∧C.a i 7≤1000)(h6:1≤C.a i 6∧C.a i 6≤1000):
 Calls prog 166 #[.pointer (some (Ad B 0)),Vi i] w fun e w'=>e=.returned (.agg #[Vi (Ze (smp l (32+(i:Int)) 3).2 (-100) 100),Vi (S.bk i).l,Vi (S.bk 2).l,Vi S.n,Vi (Ze (smU (sv i) (sv i).length) (-((C.a i 4-1)*C.a i 5)) ((C.a i 4-1)*C.a i 5))])∧Bw w w':=by
 have hgr:=Nu (C.a i 0) (C.a i 1) (C.a i 2) (C.a i 3) (C.a i 4) (C.a i 5) (C.a i 6) (C.a i 7) (C.a i 8) (C.a i 9) (C.a i 10) (C.a i 11) (C.a i 14) (C.p i) (C.q i) (C.al i).length (C.zl i).length (C.cn i) (C.cm i) h4 h5 h3 h7 h6;have hmo:1≤((C.a i 4-1)*C.a i 5)∧((C.a i 4-1)*C.a i 5)≤3000:=⟨by have:=Int.mul_le_mul (show 1≤C.a i 4-1 by omega) h5.1 (by omega) (by omega);omega,by have:=Int.mul_le_mul (show C.a i 4-1≤3 by omega) h5.2 (by omega) (by omega);omega⟩;have hsv:=(hf.blk.cell (Uz S C _ hi)).1;have hla:=(hf.blk.cell (fr_last S C _ (show i<3 by omega))).1;have hsp:w.cell? (Ad B 20)=some (Vi (S.bk 2).l):=(hf.blk.cell (fr_last S C _ (show 2<3 by omega))).1;have hlw:=(hf.blk.cell (fr_law S C _)).1;rw[(hf.servo i hi).1,(hf.servo i hi).2.1] at hsv;have hvl:=hf.vls hi;rw[(hf.servo i hi).1] at hvl;have hsm:=fun u (h:Bw w u)=>shareSum_any (sv i) (some (Ad (G i) 0)) (S.sc i) hl hs u (hvl.later h);have hsy:=fun u (h:Bw w u)=>Uk B a cap l (32+(i:Int)) 3 hf.many u (cell_later h hf.said) (hf.rds.later h);generalize ((C.a i 4-1)*C.a i 5)=mo at *;have hfm:=field_gmost;have hfi:=field_is;have hc1:=Yu (smp l (32+(i:Int)) 3).2 (-100) 100;have hc2:=Yu (smU (sv i) (sv i).length) (-mo) mo;obtain⟨kk,pv,HE⟩:∃kk pv,Hid ((Ze (smp l (32+(i:Int)) 3).2 (-100) 100)=kk∧Ze (smU (sv i) (sv i).length) (-mo) mo=pv):=⟨_,_,Za ⟨rfl,rfl⟩⟩;simp only[HE.out.1] at hc1;simp only[HE.out.2] at hc2;rw[HE.out.1,HE.out.2];generalize smU (sv i) (sv i).length=sm at *;generalize (smp l (32+(i:Int)) 3).2=sz at *;generalize (smp l (32+(i:Int)) 3).1=st at *;have Hf:=Za ((hf.later (Zb w (.cells #[Vi 0,Vi 0,Vi 0,Vi 0,Vi 0] 110))).blk.sub (30+i*15) 15);rw[fr_axis S C _ hi] at Hf
 have i0:(0:Int)≤(i:Int):=by omega
 have i1:(i:Int)<2:=by omega
 have i2:(i:Int)<3:=by omega
 have m0:=hmo.1;have m1:=hmo.2;have wA1:=Wr (32+(i:Int));have wB1:=Wr (-mo);have Hh:Hid (Bw w (w.alloc (.cells #[Vi 0,Vi 0,Vi 0,Vi 0,Vi 0] 110))∧∃cs:List Value,cs.length=5∧Blk 110 (w.alloc (.cells #[Vi 0,Vi 0,Vi 0,Vi 0,Vi 0] 110)) w.heap.size cs):=Za ⟨Zb _ _,[Vi 0,Vi 0,Vi 0,Vi 0,Vi 0],rfl,Blk.new w _ [Vi 0,Vi 0,Vi 0,Vi 0,Vi 0]⟩;have HY:Hid (w.heap.size≤w.heap.size):=Za (Nat.le_refl _);clear hf hvl HE hi hl hs h4 h5 h3 h7 h6 hmo
 go_enter func166,ntmps166
 go_upto_region 1 with fail;generalize w.alloc (.cells #[Vi 0,Vi 0,Vi 0,Vi 0,Vi 0] 110)=v0 at*
 go_upto_region 2 with(first
  |(refine Lm 26 (.tmp 11) rfl B (30+i*15) (axL C i) Hf.out underlying26 Zs ?_)
  |(go_at_call 170;refine Sb (hgr _) fun v hb=>?_;have Hi:=Za (Uo hb Hh.out);clear hb Hh))
 clear Hf hgr;have Hj:Hid (Bw w v.drew∧∃cs:List Value,cs.length=5∧Blk 110 v.drew w.heap.size cs):=Za (Uo (Below.refl _ _).drew Hi.out);clear Hi;refine wp_region_held_drew (S:=fun u=>(Bw w u∧∃cs:List Value,cs.length=5∧Blk 110 u w.heap.size cs)) (by kernel_rfl) (Hj.out) (fun _=>?_);have Ha:Hid ((Bw w v.drew∧∃cs:List Value,cs.length=5∧Blk 110 v.drew w.heap.size cs)):=Za (Hj.out);refine Tq 0 Ha.out ?_;simp only[Act.put,Ly];refine Tq 1 Ha.out ?_;simp only[Act.put,Ly];refine Tq 2 Ha.out ?_;simp only[Act.put,Ly];refine Tq 6 Ha.out ?_;simp only[Act.put,Ly];refine Tq 7 Ha.out ?_;simp only[Act.put,Ly];refine Tq 8 Ha.out ?_;simp only[Act.put,Ly];refine Tq 9 Ha.out ?_;simp only[Act.put,Ly];refine Tq 10 Ha.out ?_;simp only[Act.put,Ly];refine Tq 11 Ha.out ?_;simp only[Act.put,Ly];refine Tq 12 Ha.out ?_;simp only[Act.put,Ly];refine Th 13 rfl (by intro w hSw;(try dsimp only at hSw);have y:=cell_later hSw.1 hla;clear hSw;go_simp;(try with_reducible rfl)) Ha.out ?_;simp only[Act.put,Ly];refine Tq 14 Ha.out ?_;simp only[Act.put,Ly];refine Tq 15 Ha.out ?_;simp only[Act.put,Ly];refine Tq 16 Ha.out ?_;simp only[Act.put,Ly];refine Tq 17 Ha.out ?_;simp only[Act.put,Ly];refine Tq 18 Ha.out ?_;simp only[Act.put,Ly];refine Tq 19 Ha.out ?_;simp only[Act.put,Ly];refine Th 20 rfl (by intro w hSw;(try dsimp only at hSw);have y:=cell_later hSw.1 hsp;clear hSw;go_simp;(try with_reducible rfl)) Ha.out ?_;simp only[Act.put,Ly];refine Tq 21 Ha.out ?_;simp only[Act.put,Ly];refine Tq 22 Ha.out ?_;simp only[Act.put,Ly];refine Tq 23 Ha.out ?_;simp only[Act.put,Ly];refine Tq 24 Ha.out ?_;simp only[Act.put,Ly];refine Th 25 rfl (by intro w hSw;(try dsimp only at hSw);have y:=cell_later hSw.1 hlw;clear hSw;go_simp;(try with_reducible rfl)) Ha.out ?_;simp only[Act.put,Ly];refine Tq 26 Ha.out ?_;simp only[Act.put,Ly];refine Tq 27 Ha.out ?_;simp only[Act.put,Ly];refine Tq 28 Ha.out ?_;simp only[Act.put,Ly];refine Tq 29 Ha.out ?_;simp only[Act.put,Ly];refine Tq 30 Ha.out ?_;simp only[Act.put,Ly];refine Tq 31 Ha.out ?_;simp only[Act.put,Ly];refine Th 32 rfl (by intro w hSw;(try dsimp only at hSw);have y:=cell_later hSw.1 hsv;clear hSw;go_simp;(try with_reducible rfl)) Ha.out ?_;simp only[Act.put,Ly]
 refine Tq 34 Ha.out ?_;simp only[Act.put,Ly];refine Tq 35 Ha.out ?_;simp only[Act.put,Ly];refine Tq 36 Ha.out ?_;simp only[Act.put,Ly];refine Ra 3 (fun K hK=>?_);go_simp;refine Sb (hsy _ Ha.out.1) fun u1 hb=>?_;have Hc:=Za (Uo hb Ha.out);clear hb;go_wp2_with fail;refine hK.out _ _ Hc.out (fun _=>?_);clear hK K;refine Tq 4 Hc.out ?_;simp only[Act.put,Ly];refine Ra 5 (fun K hK=>?_);go_simp;refine Sb (hc1 _) fun u2 hq=>?_
 have hb:Bw u1 u2:=by rw[hq];exact Below.refl _ _
 clear hq;have Hd:=Za (Uo hb Hc.out);clear hb;go_wp2_with fail;refine hK.out _ _ Hd.out (fun _=>?_);clear hK K;clear Hc;refine Ra 33 (fun K hK=>?_);go_simp;refine Sb (hsm _ Hd.out.1) fun u3 hb=>?_;have Hg:=Za (Uo hb Hd.out);clear hb;go_wp2_with fail;refine hK.out _ _ Hg.out (fun _=>?_);clear hK K;clear Hd;refine Ra 37 (fun K hK=>?_);go_simp;refine Sb (hc2 _) fun u4 hq=>?_
 have hb:Bw u3 u4:=by rw[hq];exact Below.refl _ _
 clear hq;have Hb:=Za (Uo hb Hg.out);clear hb;go_wp2_with fail;refine hK.out _ _ Hb.out (fun _=>?_);clear hK K;clear Hg;refine Tq 38 Hb.out ?_;simp only[Act.put,Ly];refine Ra 39 (fun K hK=>?_);rw[if_pos (by rfl)];refine Yi 110 (.tmp 4) (.tmp 53) rfl w.heap.size (0) #[Vi kk,Vi (S.bk i).l,Vi (S.bk 2).l,Vi S.n,Vi pv] rfl rfl (by obtain⟨cs,h1,h2⟩:=Hb.out.2;exact h2.there (by rw[h1];exact Nat.le_refl _)) infoK5 (Zn _ rfl) rfl ?_;have Hk:=Za (hA_put HY.out [Vi kk,Vi (S.bk i).l,Vi (S.bk 2).l,Vi S.n,Vi pv] 0 Hb.out);have Hl:=Za (World.rangeAt_setCells_same _ w.heap.size 0 [Vi kk,Vi (S.bk i).l,Vi (S.bk 2).l,Vi S.n,Vi pv] (by obtain⟨cs,h1,h2⟩:=Hb.out.2;exact h2.there (by rw[h1];exact Nat.le_refl _)));have Hm:=Za (Zr [Vi kk,Vi (S.bk i).l,Vi (S.bk 2).l,Vi S.n,Vi pv] 0 _ Hb.out.1 HY.out);refine hK.out _ _ Hk.out (fun _=>?_);clear hK K;clear Hb;refine Dn ?_;go_simp;refine Ek ?_;go_wp2_with fail;exact bodyPost_ret (v:=.agg #[Vi kk,Vi (S.bk i).l,Vi (S.bk 2).l,Vi S.n,Vi pv]) (res_ask _ _ w.heap.size [Vi kk,Vi (S.bk i).l,Vi (S.bk 2).l,Vi S.n,Vi pv] rfl Hl.out rfl) rfl ⟨rfl,Hm.out⟩
theorem infoHe:(prog.info? 128).map (fun i=>(i.zero,i.size,i.bytes))=some (some (.agg #[Vi 0,Vi 0,Vi 0]),3,24):=by kernel_rfl
theorem h3new(w1:World)(X Y Z:Value)(t:TypeId):∀j u,[X,Y,Z][j]?=some u→(w1.alloc (.cells #[X,Y,Z] t)).cell? ((⟨w1.heap.size,0,none⟩:Addr).add j)=some u:=by
 intro j u hu
 match j with
 |0=>simp at hu;subst hu;simp[go_sem,Addr.add]
 |1=>simp at hu;subst hu;simp[go_sem,Addr.add]
 |2=>simp at hu;subst hu;simp[go_sem,Addr.add]
 |j+3=>simp at hu
theorem hls_two{x0 y0 z0 x1 y1 z1:Int}(h:w.ownsRow B e 3 (.slice (some (Ad g 0)) 2 cap) 2 [Vi x0,Vi y0,Vi z0,Vi x1,Vi y1,Vi z1]):HLs w (some (Ad g 0)) [(x0,y0,z0),(x1,y1,z1)]:=by
 refine .inr ⟨g,0,rfl,fun k hk=>?_⟩;have hk:k<2:=hk
 rcases Qtw k with rfl|rfl
 · exact⟨h.cellAt 0 (by omega),h.cellAt 1 (by omega),h.cellAt 2 (by omega)⟩
 · exact⟨h.cellAt 3 (by omega),h.cellAt 4 (by omega),h.cellAt 5 (by omega)⟩
def heM(C:CR)(S:FS)(sv:Nat→List Sv)(i:Nat):He:=(Zq (S.bk i).o 3,sndU (sv i) (sv i).length,C.a i 4)
def lwM(C:CR)(S:FS)(l:List Rd)(sv:Nat→List Sv):Int:=neI S.n (waI [heM C S sv 0,heM C S sv 1]) (decide ((smp l 40 3).2=1))
theorem weU_two{x y:He}(h0:heE x.1 x.2.1 x.2.2=0)(h1:heE y.1 y.2.1 y.2.2=0):weU [x,y] 2=0:=by
 have a:weU [x,y] 1=0:=by rw[weU_step];simpa[weU,heAt] using h0
 rw[weU_step,if_pos a];exact h1
theorem lawI_bd(c s n:Int):0≤lawI c s n∧lawI c s n≤3:=by
 unfold lawI;split<;>(try split)<;>(try split)<;>(try split)<;>omega
theorem waI_two{x y:He}(h0:heE x.1 x.2.1 x.2.2=0)(h1:heE y.1 y.2.1 y.2.2=0):waI [x,y]=mxL (mxL 0 (lawI x.1 x.2.1 x.2.2)) (lawI y.1 y.2.1 y.2.2):=by
 unfold waI
 rw[if_pos (by exact weU_two h0 h1)]
 rfl
theorem waI_bd{x y:He}(h0:heE x.1 x.2.1 x.2.2=0)(h1:heE y.1 y.2.1 y.2.2=0):betw (waI [x,y]) 0 3=true:=by
 rw[waI_two h0 h1];have a:=lawI_bd x.1 x.2.1 x.2.2;have b:=lawI_bd y.1 y.2.1 y.2.2
 unfold mxL
 simp only[betw,Bool.and_eq_true,decide_eq_true_eq]
 split<;>(try split)<;>omega
theorem chooseLaw_ok{G:Nat→Nat}(hf:FR K wz w B S C a cap l sv G)(hl:∀i,i<2→(sv i).length≤9)(h0:heE (heM C S sv 0).1 (heM C S sv 0).2.1 (heM C S sv 0).2.2=0)(h1:heE (heM C S sv 1).1 (heM C S sv 1).2.1 (heM C S sv 1).2.2=0)(hn:betw S.n 0 3=true):
 Calls prog 60 #[.pointer (some (Ad B 0))] w fun e w'=>e=.returned .nilIface∧FR K wz w' B ({ S with n:=lwM C S l sv }:FS) C a cap l sv G:=by
 obtain⟨i0,hi,hz0,hz1,hz2⟩:=info_parts infoHe;have hh:=fun u (h:Bw w u) i hi=>health_ok (hf.later h) i hi (hl i hi);have hh0:=fun u h=>hh u h 0 (by omega);have hh1:=fun u h=>hh u h 1 (by omega);have hsy:=fun u (h:Bw w u)=>Uk B a cap l 40 3 hf.many u (cell_later h hf.said) (hf.rds.later h);have hwt:=wanted_any [heM C S sv 0,heM C S sv 1];simp only[weU_two h0 h1,show[heM C S sv 0,heM C S sv 1].length=2 from rfl,Z2] at hwt;have hb:=waI_bd h0 h1;have hnx:=next_any S.n (waI [heM C S sv 0,heM C S sv 1]) (decide ((smp l 40 3).2=1))
 have hne:neE S.n (waI [heM C S sv 0,heM C S sv 1])=0:=by unfold neE;rw[hn,hb];rfl
 simp only[hne,Z2] at hnx;have HF:=Za hf;have hlw:=(hf.blk.cell (fr_law S C _)).1;have HL:Hid (neI S.n (waI [heM C S sv 0,heM C S sv 1]) (decide ((smp l 40 3).2=1))=lwM C S l sv):=Za rfl;rw[HL.out] at hnx;generalize lwM C S l sv=nl at *;generalize waI [heM C S sv 0,heM C S sv 1]=wl at *;have Ha:=Za (Below.refl w.heap.size w);simp only[heM] at hwt;generalize Zq (S.bk 0).o 3=p0 at *;generalize Zq (S.bk 1).o 3=p1 at *;generalize sndU (sv 0) (sv 0).length=q0 at *;generalize sndU (sv 1) (sv 1).length=q1 at *;have hfi:=field_is;clear hf h0 h1 hn hl hh hb hne HL
 go_enter func60,ntmps60
 go_upto_region 3 with fail;refine wp_loop_rounds 3 ?_;rw[rounds_succ]
 go_wp2_with (first
  |(go_at_call 109;refine Sb (hh0 _ Ha.out) fun u0 hb=>?_;have Ha:=Za (Zc Ha.out hb);clear hb)
  |(at_builtin;refine wpList_append_lies _ rfl _ _ 208 rfl w.heap.size 128 i0 (.agg #[.int .i64 0,.int .i64 0,.int .i64 0]) 3 24 underlying208 hi hz0 hz1 hz2 rfl (by decide) _ _ _ rfl (World.ownsRow_nil _ _ _ _) ⟨u0.heap.size,0,none⟩ 1 1 [.int .i64 p0,.int .i64 q0,.int .i64 (C.a 0 4)] rfl rfl (h3new u0 _ _ _ _) (fun x hx=>by simp at hx;rcases hx with rfl|rfl|rfl<;>rfl) (by omega) (by unfold maxLen;omega) (by omega) (Zc Ha.out (Zb _ _)).size _ rfl ?_;intro g0 c0 v0 hown hgrow hat hlt;have Hb:=Za hown;have Hd:=Za ((Zc Ha.out (Zb _ _)).grown hgrow (Zc Ha.out (Zb _ _)).size (fun q hq=>by cases hq));clear hown hgrow hat hlt Ha))
 rw[rounds_succ]
 go_wp2_with (first
  |(go_at_call 109;refine Sb (hh1 _ Hd.out) fun u1 hb=>?_;have Hc:=Za (Zc Hd.out hb);have Hb:=Za (Y3 Hb.out hb);clear hb Hd)
  |(at_builtin;refine wpList_append_lies _ rfl _ _ 208 rfl w.heap.size 128 i0 (.agg #[.int .i64 0,.int .i64 0,.int .i64 0]) 3 24 underlying208 hi hz0 hz1 hz2 rfl (by decide) _ _ _ rfl (Hb.out.alloc _) ⟨u1.heap.size,0,none⟩ 1 1 [.int .i64 p1,.int .i64 q1,.int .i64 (C.a 1 4)] rfl rfl (h3new u1 _ _ _ _) (fun x hx=>by simp at hx;rcases hx with rfl|rfl|rfl<;>rfl) (by omega) (by unfold maxLen;omega) (by omega) (Zc Hc.out (Zb _ _)).size _ rfl ?_;intro g1 c1 v1 hown hgrow hat hlt;have Hk:=Za hown;have Hi:=Za ((Zc Hc.out (Zb _ _)).grown hgrow (Zc Hc.out (Zb _ _)).size (fun q hq=>(Hb.out.lt q hq).1));clear hown hgrow hat hlt Hc))
 rw[rounds_succ];have Hj:=Za (hls_two Hk.out)
 go_wp2_with (first
  |(go_at_call 110;refine Sb (hwt _ _ (by omega) _ Hj.out) fun u2 hb=>?_;have Hf:=Za (Zc Hi.out hb);clear hb Hi Hj)
  |(go_at_call 107;refine Sb (hsy _ Hf.out) fun u3 hb=>?_;have Hg:=Za (Zc Hf.out hb);clear hb Hf;have hl3:=cell_later Hg.out hlw)
  |(go_at_call 111;refine Sb (hnx _) fun u4 hb=>?_;have Hl:=Za (Zc Hg.out hb);clear hb Hg;have Hh:=Za (HF.out.later Hl.out);have hl4:=(Hh.out.blk.cell (fr_law S C _)).1;have hf4:=(Hh.out.blk.cell (fr_law S C _)).2))
 go_ret;exact⟨rfl,Hh.out.put _ [Vi nl] 29 (fr_putLaw S C _ nl) ⟨rfl,rfl⟩⟩
theorem bounds_free(L H N P M R k p v n q:Int)(hn:betw n 0 1=false)(hq:-100000≤q∧q≤100000)(hR:-100000≤R∧R≤100000)(w:World):
 Calls prog 169 #[.agg #[Vi L,Vi H,Vi N,Vi P,Vi M,Vi R],.agg #[Vi k,Vi p,Vi v,Vi n,Vi q]] w (Rt w (.tuple #[.agg #[Vi (q-R),Vi (q+R)],.nilIface])):=by
 have hg:=Md n;rw[hn] at hg;obtain⟨q0,q1⟩:=hq;obtain⟨r0,r1⟩:=hR
 go_enter func169,ntmps169
 go_wp2_with (first
  |(go_at_call 216;refine(hg _).mono ?_;rintro e w' ⟨rfl,rfl⟩))
 exact bodyPost_ret (v:=.tuple #[.agg #[Vi (q-R),Vi (q+R)],.nilIface]) (by simp[results,results169,go_sem]) rfl ⟨rfl,Zc (Zc (Zb _ _) (Zb _ _)) (Zb _ _)⟩
theorem bounds_kept(L H N P M R k p v n q:Int)(hn:betw n 0 1=true)(he:gmE L H N P M R q=0)(w:World):
 Calls prog 169 #[.agg #[Vi L,Vi H,Vi N,Vi P,Vi M,Vi R],.agg #[Vi k,Vi p,Vi v,Vi n,Vi q]] w fun e w'=>(∃a b,e=.returned (.tuple #[.agg #[Vi (-a),Vi b],.nilIface])∧IsHi R P (-Yp M R q) (-Yj M R q) (Ze p (-2000000) 2000000-N-L) a∧IsHi R P (Yj M R q) (Yp M R q) (H-N-Ze p (-2000000) 2000000) b)∧Bw w w':=by
 have hg:=Md n;rw[hn] at hg;have hb:=gBounds_ok L H N P M R p q he;clear he
 have HY:Hid (Blk 105 (((w.alloc (.cells #[Vi L,Vi H,Vi N,Vi P,Vi M,Vi R] 99)).alloc (.cells #[Vi k,Vi p,Vi v,Vi n,Vi q] 110)).alloc (.cells #[Vi 0,Vi 0] 105)) (w.heap.size+1+1) [Vi 0,Vi 0]):=Za (by
  have:=Blk.new ((w.alloc (.cells #[Vi L,Vi H,Vi N,Vi P,Vi M,Vi R] 99)).alloc (.cells #[Vi k,Vi p,Vi v,Vi n,Vi q] 110)) 105 [Vi 0,Vi 0];rw[World.size_alloc,World.size_alloc] at this;exact this)
 have HB:Hid (Bw w (((w.alloc (.cells #[Vi L,Vi H,Vi N,Vi P,Vi M,Vi R] 99)).alloc (.cells #[Vi k,Vi p,Vi v,Vi n,Vi q] 110)).alloc (.cells #[Vi 0,Vi 0] 105))):=Za (Zc (Zc (Zb _ _) (Zb _ _)) (Zb _ _))
 go_enter func169,ntmps169
 go_wp2_with (first
  |(go_at_call 216;refine(hg _).mono ?_;rintro e w' ⟨rfl,rfl⟩)
  |(go_at_call 219;refine(hb _).mono ?_;rintro e w1 ⟨⟨x,y,rfl,hx,hy⟩,hb1⟩;have Ha:=Za (HY.out.later hb1);have Hb:=Za (Zc HB.out hb1);have HX:=Za hx;have HZ:=Za hy;clear hx hy hb1 HY HB;have c0:=(Ha.out.cell (j:=0) rfl).1;have c1:=(Ha.out.cell (j:=1) rfl).1;have f0:=(Ha.out.cell (j:=0) rfl).2;have f1:=(Ha.out.cell (j:=1) rfl).2))
 exact bodyPost_ret (v:=.tuple #[.agg #[Vi (-x),Vi y],.nilIface]) (by simp[results,results169,go_sem,c0,c1]) rfl ⟨⟨x,y,rfl,HX.out,HZ.out⟩,(Hb.out.setCell (by simp;omega) _).setCell (by simp;omega) _⟩
theorem infoVs2:(prog.info? 36).map (·.size)=some 2:=by kernel_rfl
def spL(S:FS):List Value:=[.slice (S.sp 0) (S.sn 0) (S.sc 0),.slice (S.sp 1) (S.sn 1) (S.sc 1)]
theorem fr_servos(S:FS)(C:CR)(x:Value):((frL S C x).drop 21).take 2=spL S:=rfl
theorem svidx(S:FS)(i:Nat)(hi:i<2)(w:World):(Instr.index 36 (.agg (spL S).toArray) (Vi (i:Int))).run prog w=.ok (.slice (S.sp i) (S.sn i) (S.sc i)) w:=by
 rcases Qtw i with rfl|rfl<;>kernel_rfl
def rd1(i:Nat)(L:List Sv)(k:Nat):Rd:=(64+4*(i:Int)+(k:Int),3,(if(svAt L k).2.2 then 0 else 3),(svAt L k).1)
def rdU(i:Nat)(L:List Sv):Nat→List Rd
 |0=>[]
 |k+1=>rdU i L k++[rd1 i L k]
def rdX(sv:Nat→List Sv):Nat→List Rd
 |0=>[]
 |i+1=>rdX sv i++rdU i (sv i) (sv i).length
def rdA(sv:Nat→List Sv)(n:Int):List Rd:=rdX sv 2++[(80,3,3,n)]
theorem Wk(i:Nat)(L:List Sv):∀k,(rdU i L k).length=k
 |0=>rfl
 |k+1=>by rw[rdU,List.length_append,Wk i L k];rfl
theorem rdX_len(sv:Nat→List Sv)(h:∀i,i<2→(sv i).length≤9):∀i,i≤2→(rdX sv i).length≤9*i
 |0,_=>by simp[rdX]
 |i+1,hi=>by
  have a:=rdX_len sv h i (by omega);have b:=h i (by omega);rw[rdX,List.length_append,Wk];omega
theorem encL_four:∀(l:List Rd) (k:Nat),k<l.length→(encL l)[k*4]?=some (Vi (rat l k).1)∧(encL l)[k*4+1]?=some (Vi (rat l k).2.1)∧(encL l)[k*4+2]?=some (Vi (rat l k).2.2.1)∧(encL l)[k*4+3]?=some (Vi (rat l k).2.2.2)
 |[],_,h=>by simp at h
 |r::l,0,_=>⟨rfl,rfl,rfl,rfl⟩
 |r::l,k+1,h=>by
  have:=encL_four l k (by simpa using h);have e:encL (r::l)=Vi r.1::Vi r.2.1::Vi r.2.2.1::Vi r.2.2.2::encL l:=rfl;rw[e,show(k+1)*4=k*4+1+1+1+1 by omega]
  simpa[rat,Nat.add_right_comm] using this
theorem rds_of_row(hn:n=l.length)(h:w.ownsRow B e 4 (.slice (some (Ad g 0)) n cap) n (encL l)):Rds w (some (Ad g 0)) l:=by
 subst hn;refine .inr ⟨g,rfl,fun k hk=>?_⟩;have f:=encL_four l k hk;exact⟨(h.cellAt (k*4) (by omega)).trans f.1,(h.cellAt (k*4+1) (by omega)).trans f.2.1,(h.cellAt (k*4+2) (by omega)).trans f.2.2.1,(h.cellAt (k*4+3) (by omega)).trans f.2.2.2⟩
theorem own_apart{base:Nat}{size:Nat}{v:Value}{xs:List Value}(h:w.ownsRow base e size v n xs):some w.heap.size≠v.ownBlock:=fun e=>by have:=(h.lt _ e.symm).2;omega
theorem rS_later(hb:Bw u u')(h:Bw w u∧u.rangeAt P 0 cs):Bw w u'∧u'.rangeAt P 0 cs:=⟨Zc h.1 hb,Zg h.2 hb⟩
theorem rS_grown{row:Option Nat}(hg:u.grownBy u' row)(hr:∀k,row=some k→w.heap.size≤k)(hP:some P≠row)(h:Bw w u∧u.rangeAt P 0 cs):Bw w u'∧u'.rangeAt P 0 cs:=⟨h.1.grown hg h.1.size hr,fun j v hj=>hg.cell (h.2 j v hj) hP⟩
theorem readings_ok{G:Nat→Nat}(hf:FR K wz w B S C a cap l sv G)(hl:∀i,i<2→(sv i).length≤9):
 Calls prog 114 #[.pointer (some (Ad B 0))] w fun e w'=>(∃g c,e=.returned (.slice (some (Ad g 0)) (rdA sv S.n).length c)∧Rds w' (some (Ad g 0)) (rdA sv S.n))∧Bw w w':=by
 obtain⟨i0,hi4,hz0,hz1,hz2⟩:=info_parts rd_info;have HF:=Za hf;have HL:=Za hl;have HR:=Za (hf.blk.sub 21 2);rw[fr_servos] at HR;have Hi:=Za (rdX_len sv hl);clear hf hl
 go_enter func114,ntmps114
 go_upto_region 3 with(refine Lm 36 (.tmp 11) rfl B 21 (spL S) HR.out underlying36 infoVs2 ?_);clear HR
 go_loopw [3,13] (fun s0 ix wr=>∃i:Nat,i≤2∧ix=Vi i∧wr.ownsRow w.heap.size 161 4 s0 (rdX sv i).length (encL (rdX sv i))∧Bw w wr) (fun _ ix _=>2-(intOf ix).toNat)
 case atStart=>exact⟨0,by omega,rfl,World.ownsRow_nil _ _ _ _,Below.refl _ _⟩
 case round=>
  obtain⟨i,hi2,rfl,hown,hbw⟩:=hrel
  by_cases hi:i<2
  · have hidx:=svidx S i hi
    have i1:(0:Int)≤(i:Int):=by omega
    have i2:(i:Int)<2:=by omega
    have hsp:S.sp i=some (Ad (G i) 0):=(HF.out.servo i hi).1;obtain⟨n,hn⟩:∃n,n=(sv i).length:=⟨_,rfl⟩
    have hsn:S.sn i=n:=by rw[hn];exact(HF.out.servo i hi).2.1
    rw[hsp,hsn] at hidx
    have hn9:n≤9:=by rw[hn];exact HL.out i hi
    go_upto_region 6 with fail
    go_loopw [3,19] (fun s1 ix wr=>∃k:Nat,k≤n∧ix=Vi k∧wr.ownsRow w.heap.size 161 4 s1 ((rdX sv i).length+k) (encL (rdX sv i++rdU i (sv i) k))∧Bw w wr) (fun _ ix _=>n-(intOf ix).toNat)
    case atStart=>exact⟨0,Nat.zero_le _,rfl,by rw[rdU,List.append_nil];exact hown,hbw⟩
    case round=>
     clear hown hbw;obtain⟨k,hk,rfl,hown,hbw⟩:=hrel
     by_cases hlt:k<n
     · have g:=((HF.out.later hbw).servo i hi).2.2.1.sub (k*3) 3;rw[svL_at _ k (by omega)] at g;have c0:wr.cell? (Ad (G i) (k*3))=some (Vi (svAt (sv i) k).1):=g 0 _ rfl;have c1:wr.cell? (Ad (G i) (k*3+1))=some (Vi (svAt (sv i) k).2.1):=g 1 _ rfl;have c2:wr.cell? (Ad (G i) (k*3+2))=some (.bool (svAt (sv i) k).2.2):=g 2 _ rfl;have Hm:Hid (rd1 i (sv i) k=(64+4*(i:Int)+(k:Int),3,(if(svAt (sv i) k).2.2 then 0 else 3),(svAt (sv i) k).1)):=Za rfl;have hul:=fun u=>(Nw 64 (i:Int) (k:Int) (by omega) (by omega) (by omega) u).mono (fun _ w' h=>And.intro h.1 (show Bw u w' by rw[h.2];exact Below.refl _ _));have hst:=status_any (svAt (sv i) k).1 (svAt (sv i) k).2.1 (svAt (sv i) k).2.2;generalize (if(svAt (sv i) k).2.2 then(0:Int) else 3)=st at *;generalize (svAt (sv i) k).1=si at *;generalize (svAt (sv i) k).2.1=sb at *;generalize (svAt (sv i) k).2.2=so at *;generalize 64+4*(i:Int)+(k:Int)=lb at*
       have k0:(0:Int)≤(k:Int):=by omega
       have k1:(k:Int)<(n:Int):=by omega
       have hxl:=Hi.out i (by omega);have Hj:=Za (Zc hbw (Zb wr (.cells #[Vi si,Vi sb,.bool so] 116)));have Ha:=Za (hown.alloc (.cells #[Vi si,Vi sb,.bool so] 116));have HP:Hid (Blk 116 (wr.alloc (.cells #[Vi si,Vi sb,.bool so] 116)) wr.heap.size [Vi si,Vi sb,.bool so]):=Za (Blk.new wr _ [Vi si,Vi sb,.bool so]);have Hk:=Za (own_apart hown);clear g hown hbw
       go_upto_region 8 with fail;clear c0 c1 c2;generalize wr.alloc (.cells #[Vi si,Vi sb,.bool so] 116)=v7 at *;generalize wr.heap.size=P7 at HP Hk⊢;have Ha:=Za (Y3 Ha.out (Below.refl _ _).drew);have Hl:Hid (Bw w v7.drew∧v7.drew.rangeAt P7 0 [Vi si,Vi sb,.bool so]):=Za ⟨Zc Hj.out (Below.refl _ _).drew,(HP.out.later (Below.refl _ _).drew).range⟩;clear Hj HP;refine wp_region_held_drew (S:=fun u=>(Bw w u∧u.rangeAt P7 0 [Vi si,Vi sb,.bool so])) (by kernel_rfl) (Hl.out) (fun _=>?_);have Hb:Hid ((Bw w v7.drew∧v7.drew.rangeAt P7 0 [Vi si,Vi sb,.bool so])):=Za (Hl.out);refine Tq 0 Hb.out ?_;simp only[Act.put,Ly];refine Tq 1 Hb.out ?_;simp only[Act.put,Ly];refine Tq 2 Hb.out ?_;simp only[Act.put,Ly];refine Tk 4 rfl (yieldsIf_load_mid (by rfl) 116 (.tmp 7) rfl P7 0 rfl [Vi si,Vi sb,.bool so] _ (fun w hSw=>hSw.2) underlying116 rfl Xz) Hb.out ?_;simp only[Act.put,Ly];refine Tq 6 Hb.out ?_;simp only[Act.put,Ly];refine Th 7 rfl (by intro w hSw;(try dsimp only at hSw);have y:w.cell? (Ad P7 0)=_:=hSw.2 0 _ rfl;clear hSw;go_simp;(try with_reducible rfl)) Hb.out ?_;simp only[Act.put,Ly];refine Ra 3 (fun K hK=>?_);go_simp;refine Sb (hul _) fun u1 hb=>?_;have Hg:=Za (rS_later hb Hb.out);have Ha:=Za (Y3 Ha.out hb);clear hb;go_wp2_with fail;refine hK.out _ _ Hg.out (fun _=>?_);clear hK K;refine Ra 5 (fun K hK=>?_);go_simp;refine Sb (hst _) fun u2 hb=>?_;have Hd:=Za (rS_later hb Hg.out);have Ha:=Za (Y3 Ha.out hb);clear hb;go_wp2_with fail;refine hK.out _ _ Hd.out (fun _=>?_);clear hK K;clear Hg;refine Tq 8 Hd.out ?_;simp only[Act.put,Ly];refine Ra 9 (fun K hK=>?_);go_simp;have Hc:=Za (rS_later (Zb u2 (.cells #[Vi lb,Vi 3,Vi st,Vi si] 161)) Hd.out);have Ha:=Za (Ha.out.alloc (.cells #[Vi lb,Vi 3,Vi st,Vi si] 161));have Hh:=Za (Wn u2 (lb,3,st,si));generalize u2.alloc (.cells #[Vi lb,Vi 3,Vi st,Vi si] 161)=u3 at Hc Ha Hh⊢;generalize u2.heap.size=X9 at Hh⊢;refine hK.out _ _ Hc.out (fun _=>?_);clear hK K;clear Hd;refine Ra 10 (fun K hK=>?_);simp only[Ly];rw[if_pos (by rfl)]
       refine wp_append_lies _ (.tmp 24) (.tmp 33) 118 rfl w.heap.size 161 i0 (.agg #[Vi 0,Vi 0,Vi 0,Vi 0]) 4 32 Y0 hi4 hz0 hz1 hz2 rfl (by decide) _ _ _ rfl Ha.out ⟨X9,0,none⟩ 1 1 (encR (lb,3,st,si)) rfl rfl Hh.out (X3 _) (by omega) (by unfold maxLen;omega) (by omega) Hc.out.1.size _ rfl ?_;intro g9 c9 u4 hown hgrow hat hlt9;have Hf:=Za (rS_grown hgrow (fun q hq=>(Ha.out.lt q hq).1) Hk.out Hc.out);have Ha:=Za hown;clear hown hgrow hat hlt9;refine hK.out _ _ Hf.out (fun _=>?_);clear hK K;clear Hc;refine Tq 11 Hf.out ?_;simp only[Act.put,Ly];refine Dn ?_;go_simp;have hB:=Hf.out.1;clear Hf;generalize u4=v8 at hB Ha⊢;refine Ek ?_;go_wp2_with fail;go_roundw
       case rel=>exact⟨k+1,by omega,by go_num,by rw[rdU,←List.append_assoc,encL_snoc,Hm.out];exact Ha.out,hB⟩
       case measure=>simp[intOf];omega
     · obtain rfl:k=n:=by omega
       go_wp2_with fail;go_roundw
       case rel=>exact⟨i+1,by omega,by go_num,by rw[rdX,List.length_append,Wk,←hn];exact hown,hbw⟩
       case measure=>simp[intOf];omega
  · obtain rfl:i=2:=by omega
    have hlw:=((HF.out.later hbw).blk.cell (fr_law S C _)).1;have hxl:=Hi.out 2 (by omega);have Ha:=Za hown;have HB:=Za hbw;clear hown hbw
    go_wp2_with (at_builtin;refine wpList_append_lies _ rfl _ _ 118 rfl w.heap.size 161 i0 (.agg #[Vi 0,Vi 0,Vi 0,Vi 0]) 4 32 Y0 hi4 hz0 hz1 hz2 rfl (by decide) _ _ _ rfl (Ha.out.alloc _) ⟨wr.heap.size,0,none⟩ 1 1 (encR (80,3,3,S.n)) rfl rfl (Wn wr (80,3,3,S.n)) (X3 _) (by omega) (by unfold maxLen;omega) (by omega) (Zc HB.out (Zb _ _)).size _ rfl ?_;intro g9 c9 v9 hown hgrow hat hlt9);have HE:=Za hown;have Hn:=Za ((Zc HB.out (Zb _ _)).grown hgrow (Zc HB.out (Zb _ _)).size (fun q hq=>(Ha.out.lt q hq).1));clear hown hgrow hat hlt9;go_ret;refine⟨⟨g9,c9,?_,?_⟩,Hn.out⟩
    · rw[rdA,List.length_append];rfl
    · exact rds_of_row (n:=(rdX sv 2).length+1) (by simp[rdA]) (by rw[rdA,encL_snoc];exact HE.out)
end Go.Proofs.YtnfdfiholcelaaaGreatDoor
