
import Derived.Test.YtnepnnkdgejheaaGreatDoorKp25
import Derived.Test.YtnepnnkdgejheaaGreatDoorKp26
set_option maxRecDepth 100000
set_option maxHeartbeats 20000000
namespace Go.Proofs.YtnepnnkdgejheaaGreatDoor
open Go.RowKit Plain Tryz
variable {B K P Y cap g n:Nat}{C:CR}{S:FS}{cs:List Value}{e t:TypeId}{l:List Rd}{sv:Nat->List Sv}{u u' w wz:V6}
theorem Zq:(prog.info? 38).map (·.size)=some 15:=by kernel_rfl
theorem Wx{ops:Array Oper}{rest:List Oper}{op:Oper}{a:Act}{Q:Exit->Act->World->Prop}{c c':Array Value}(x y:Operand)(ha:op.guard=none)(ho:op.op=.store 38 x y)(hx:a.eval x=Ve w.heap.size 0)(hy:a.eval y=.agg c')(hs:c'.size=15)(hc:c.size=c'.size)(h1:c'.all (·.oneCell')=true)(h:wpList prog ops Q rest (a.put op.dst undef) (w.alloc (.cells c' 38))):wpList prog ops Q (op::rest) a (w.alloc (.cells c 38)):=
 wpList_plain ha fun _ hK=>by
  unfold Oper.wp execOp
  simp only[ho,hx,hy,Sem.run_bind,Sem.run_pure,Result.andThen_ok,run_storeAt_new w 38 c c' (by rw[Zq,hs]) hc h1];exact hK _ _ h
theorem P2(C:CR)(w:V6):(Instr.index 39 (.agg (axL C 0++axL C 1).toArray) (Vi 0)).run prog w=.ok (.agg (axL C 0).toArray) w:=by kernel_rfl
theorem P3(C:CR)(w:V6):(Instr.index 39 (.agg (axL C 0++axL C 1).toArray) (Vi 1)).run prog w=.ok (.agg (axL C 1).toArray) w:=by kernel_rfl
theorem TF(C:CR)(w:V6):Va 102 #[.agg (crL C).toArray] w (Rt w (.agg #[Vi C.c0,Vi C.c1])):=Zjt _ _ _ _ _ _ _ _ _ _ _ _ _ _ _ _ _ _ _ _ _ _ _ _ _ _ _ _ _ _ C.c0 C.c1 w
theorem P4{a:V8}{G:Nat->Nat}(h:FR K wz w B S C a cap l sv G)(h2:Z9 (S.bk 2).b (S.bk 2).l C.c0 C.c1 (tS l 8) (sS l 8)=0)(h0:Z9 (S.bk 0).b (S.bk 0).l (C.a 0 8) (C.a 0 9) (tS l 1) (sS l 1)=0)(h1:Z9 (S.bk 1).b (S.bk 1).l (C.a 1 8) (C.a 1 9) (tS l 2) (sS l 2)=0):
 Va 204 #[Ve B 0] w fun e w'=>e=.returned .nilIface/\FR K wz w' B ({ S with bk:=upd (upd (upd S.bk 2 (vbk (S.bk 2) C.c0 C.c1 (tS l 8) (sS l 8))) 0 (vbk (S.bk 0) (C.a 0 8) (C.a 0 9) (tS l 1) (sS l 1))) 1 (vbk (S.bk 1) (C.a 1 8) (C.a 1 9) (tS l 2) (sS l 2)) }:FS) C a cap l sv G:=by
 have Q:=Za h;have m:=Za (h.blk.sub 30 32);rw[Jgg] at m;have ha:=P2 C;have hc:=P3 C;clear h
 go_enter func204,ntmps204
 go_upto_region 2 with(first
  |(refine Lm 41 (.tmp 10) rfl B 30 (crL C) m.o underlying41 Zr ?_)
  |(go_at_call 102;refine Sb (TF C _) fun r y=>?_;have R:=Za (Q.o.lq y);clear y Q m)
  |(go_at_call 248;refine Sb (Ec R.o 2 8 C.c0 C.c1 h2) fun z h=>?_;have H:Hd (FR K wz z B ({ S with bk:=upd S.bk 2 (vbk (S.bk 2) C.c0 C.c1 (tS l 8) (sS l 8)) }:FS) C a cap l sv G):=Za h;clear h R))
 have Z:=Za (H.o.blk.sub 30 30);rw[Jas] at Z
 go_upto_region 5 with(first
  |(refine Lm 39 (.tmp 20) rfl B 30 (axL C 0++axL C 1) Z.o underlying39 JN ?_))
 clear Z;refine wp_loop_rounds 3 ?_;rw[rounds_succ];have Y:Hd (Blk 38 (z.alloc (.cells (axL C 0).toArray 38)) z.heap.size (axL C 0)):=Za (Blk.new z _ (axL C 0));have T:=Za (H.o.lq (Zb z (.cells (axL C 0).toArray 38)))
 go_upto_region 7 with(first
  |(refine Sq 38 _ _ rfl ?_;refine Wx (c':=(axL C 0).toArray) (.tmp 5) (.tmp 25) rfl rfl rfl rfl rfl rfl (Zm _ rfl) ?_))
 generalize z.alloc (.cells (axL C 0).toArray 38)=v0 at *;generalize z.heap.size=Q0 at Y|-;clear H
 go_wp2_with (first
  |(refine Lm 38 (.tmp 5) rfl Q0 0 (axL C 0) Y.o.range underlying38 Zq ?_)
  |(go_at_call 147;refine Sb (M7 (C.a 0 0) (C.a 0 1) (C.a 0 2) (C.a 0 3) (C.a 0 4) (C.a 0 5) (C.a 0 6) (C.a 0 7) (C.a 0 8) (C.a 0 9) (C.a 0 10) (C.a 0 11) (C.a 0 14) (C.p 0) (C.q 0) (C.al 0).length (C.zl 0).length (C.cn 0) (C.cm 0) _) fun r0 y=>?_;have J:=Za (T.o.lq y);clear y T)
  |(go_at_call 248;refine Sb (Ec J.o 0 1 _ _ h0) fun j h=>?_;have M:Hd (FR K wz j B ({ S with bk:=upd (upd S.bk 2 (vbk (S.bk 2) C.c0 C.c1 (tS l 8) (sS l 8))) 0 (vbk (S.bk 0) (C.a 0 8) (C.a 0 9) (tS l 1) (sS l 1)) }:FS) C a cap l sv G):=Za h;clear h J))
 clear Y;rw[rounds_succ];have X:Hd (Blk 38 (j.alloc (.cells (axL C 1).toArray 38)) j.heap.size (axL C 1)):=Za (Blk.new j _ (axL C 1));have N:=Za (M.o.lq (Zb j (.cells (axL C 1).toArray 38)))
 go_upto_region 7 with(first
  |(refine Sq 38 _ _ rfl ?_;refine Wx (c':=(axL C 1).toArray) (.tmp 5) (.tmp 25) rfl rfl rfl rfl rfl rfl (Zm _ rfl) ?_))
 generalize j.alloc (.cells (axL C 1).toArray 38)=v1 at *;generalize j.heap.size=Q1 at X|-;clear M
 go_wp2_with (first
  |(refine Lm 38 (.tmp 5) rfl Q1 0 (axL C 1) X.o.range underlying38 Zq ?_)
  |(go_at_call 147;refine Sb (M7 (C.a 1 0) (C.a 1 1) (C.a 1 2) (C.a 1 3) (C.a 1 4) (C.a 1 5) (C.a 1 6) (C.a 1 7) (C.a 1 8) (C.a 1 9) (C.a 1 10) (C.a 1 11) (C.a 1 14) (C.p 1) (C.q 1) (C.al 1).length (C.zl 1).length (C.cn 1) (C.cm 1) _) fun r1 y=>?_;have P:=Za (N.o.lq y);clear y N)
  |(go_at_call 248;refine Sb (Ec P.o 1 2 _ _ h1) fun D h=>?_;have E:Hd (FR K wz D B ({ S with bk:=upd (upd (upd S.bk 2 (vbk (S.bk 2) C.c0 C.c1 (tS l 8) (sS l 8))) 0 (vbk (S.bk 0) (C.a 0 8) (C.a 0 9) (tS l 1) (sS l 1))) 1 (vbk (S.bk 1) (C.a 1 8) (C.a 1 9) (tS l 2) (sS l 2)) }:FS) C a cap l sv G):=Za h;clear h P))
 clear X;rw[rounds_succ];go_wp2_with fail;go_ret;exact⟨rfl,E.o⟩
theorem Wc:(prog.info? 169).map (·.size)=some 3:=by kernel_rfl
theorem Jri(C:CR)(i:Nat)(hi:i<2)(w:V6):(Instr.index 39 (.agg (axL C 0++axL C 1).toArray) (Vi (i:Int))).run prog w=.ok (.agg (axL C i).toArray) w:=by
 rcases Qtw i with rfl|rfl
 . exact P2 C w
 . exact P3 C w
def wsx(C:CR)(l:List Rd)(sv:Nat->List Sv)(i:Nat)(j:Nat):List Sv:=if j<i then wml C l j (sv j) (sv j).length else sv j
theorem Jhk(C:CR)(l:List Rd)(sv:Nat->List Sv):wsx C l sv 0=sv:=by funext j;simp[wsx]
theorem Jd3(C:CR)(l:List Rd)(sv:Nat->List Sv)(i:Nat):upd (wsx C l sv i) i (wml C l i (sv i) 0)=wsx C l sv i:=by
 funext j
 by_cases e:j=i
 . subst e;rw[Zs,Jhi];simp[wsx]
 . rw[Yv _ _ e]
theorem Jlu(C:CR)(l:List Rd)(sv:Nat->List Sv)(i:Nat):upd (wsx C l sv i) i (wml C l i (sv i) (sv i).length)=wsx C l sv (i+1):=by
 funext j
 by_cases e:j=i
 . subst e;rw[Zs];simp[wsx]
 . rw[Yv _ _ e]
   unfold wsx
   by_cases h:j<i
   . rw[if_pos h,if_pos (by omega)]
   . rw[if_neg h,if_neg (by omega)]
theorem E6{α:Type}(f:Nat->α)(i:Nat)(x y:α):upd (upd f i x) i y=upd f i y:=by
 funext j;unfold upd;split<;>rfl
theorem K6{a:V8}{G:Nat->Nat}(P:FR K wz w B S C a cap l (sv) G)(hl:∀i,i<2->(sv i).length<=9)(hs:∀i,i<2->∀k,k<(sv i).length->svE (C.a i 5) (C.a i 6) (C.a i 7) (C.a i 10) (A0 (sv i) k).1 (A0 (sv i) k).2.1 (A0 (sv i) k).2.2=0):
 Va 205 #[Ve B 0] w fun e w'=>e=.returned .nilIface/\FR K wz w' B S C a cap l (wsx C l sv 2) G:=by
 have HF:=Za P;have HL:=Za hl;have Hu:=Za hs;have D:=Za (P.blk.sub 30 30);rw[Jas] at D;clear P hl hs
 go_enter func205,ntmps205
 go_upto_region 2 with(first
  |(refine Lm 39 (.tmp 12) rfl B 30 (axL C 0++axL C 1) D.o underlying39 JN ?_))
 clear D
 go_loopw [14] (fun ix wr=>∃i:Nat,i<=2/\ix=Vi i/\FR K wz wr B S C a cap l (wsx C l sv i) G) (fun ix _=>2-(intOf ix).toNat)
 case atStart=>exact⟨0,by omega,rfl,by rw[Jhk];exact HF.o⟩
 case round=>
  obtain⟨i,hr,rfl,ha⟩:=hrel;clear HF
  by_cases hi:i<2
  . have hq:=Jri C i hi
    have i0:(0:Int)<=(i:Int):=by omega
    have i1:(i:Int)<2:=by omega
    obtain⟨n,hn⟩:∃n,n=(sv i).length:=⟨_,rfl⟩;have Hm:Hd (Blk 38 (wr.alloc (.cells (axL C i).toArray 38)) wr.heap.size (axL C i)):=Za (Blk.new wr _ (axL C i));have E:=Za (ha.lq (Zb wr (.cells (axL C i).toArray 38)));clear ha
    go_upto_region 4 with(first
     |(refine Sq 38 _ _ rfl ?_;refine Wx (c':=(axL C i).toArray) (.tmp 4) (.tmp 17) rfl rfl rfl rfl rfl rfl (Zm _ rfl) ?_))
    generalize wr.alloc (.cells (axL C i).toArray 38)=v0 at *;generalize wr.heap.size=QA at Hm|-;have hh:=(E.o.blk.cell (Nz S C _ hi)).1;have hc:S.sp i=some (Ad (G i) 0):=(E.o.servo i hi).1
    have hd:S.sn i=n:=by rw[hn];have:=(E.o.servo i hi).2.1;simpa[wsx] using this
    rw[hc,hd] at hh;clear hc hd
    go_upto_region 5 with fail;clear hh
    go_loopw [26] (fun ix wr=>∃k:Nat,k<=n/\ix=Vi k/\FR K wz wr B S C a cap l (upd (wsx C l sv i) i (wml C l i (sv i) k)) G/\Blk 38 wr QA (axL C i)) (fun ix _=>n-(intOf ix).toNat)
    case atStart=>exact⟨0,Nat.zero_le _,rfl,by rw[Jd3];exact E.o,Hm.o⟩
    case round=>
     obtain⟨k,hk,rfl,ha,hj⟩:=hrel;clear E Hm;have hc:S.sp i=some (Ad (G i) 0):=(ha.servo i hi).1
     have hd:S.sn i=n:=by have:=(ha.servo i hi).2.1;rwa[Zs,Uk,<-hn] at this
     have ht:n<=9:=by rw[hn];exact HL.o i hi
     by_cases hlt:k<n
     . have g:=(ha.servo i hi).2.2.1.sub (k*3) 3;rw[Zs,K5 _ k (by rw[Uk];omega),Jo2 _ _ _ _ (by omega)] at g;have c0:wr.cell? (Ad (G i) (k*3))=some (Vi (A0 (sv i) k).1):=g 0 _ rfl;have c1:wr.cell? (Ad (G i) (k*3+1))=some (Vi (A0 (sv i) k).2.1):=g 1 _ rfl;have c2:wr.cell? (Ad (G i) (k*3+2))=some (.bool (A0 (sv i) k).2.2):=g 2 _ rfl;have h0:=Hu.o i hi k (by omega);have Ho:=Za (rfl:wv C l i k (A0 (sv i) k)=wv C l i k (A0 (sv i) k));have hm:=Mu 16 (i:Int) (k:Int)
       unfold wv at Ho
       have he:=fun st F=>Jg7 (C.a i 5) (C.a i 6) (C.a i 7) (C.a i 10) (A0 (sv i) k).1 (A0 (sv i) k).2.1 (A0 (sv i) k).2.2 st F h0;have I:=he (smp l (16+4*(i:Int)+(k:Int)) 3).1 (smp l (16+4*(i:Int)+(k:Int)) 3).2;obtain⟨m,H,no,HNI⟩:∃m H no,Hd (wv C l i k (A0 (sv i) k)=(m,H,no)):=⟨_,_,_,Za rfl⟩;have e1:wI (C.a i 7) (C.a i 10) (A0 (sv i) k).1 (A0 (sv i) k).2.1 (smp l (16+4*(i:Int)+(k:Int)) 3).2 (A0 (sv i) k).2.2 (smp l (16+4*(i:Int)+(k:Int)) 3).1=m:=congrArg (·.1) HNI.o;have e2:wB (C.a i 7) (A0 (sv i) k).1 (A0 (sv i) k).2.1 (smp l (16+4*(i:Int)+(k:Int)) 3).2 (A0 (sv i) k).2.2 (smp l (16+4*(i:Int)+(k:Int)) 3).1=H:=congrArg (·.2.1) HNI.o;have e3:wO (C.a i 7) (C.a i 10) (A0 (sv i) k).1 (A0 (sv i) k).2.1 (smp l (16+4*(i:Int)+(k:Int)) 3).2 (A0 (sv i) k).2.2 (smp l (16+4*(i:Int)+(k:Int)) 3).1=no:=congrArg (·.2.2) HNI.o;rw[e1,e2,e3] at I;clear e1 e2 e3 he Ho h0 g;obtain⟨X,Q,R,HSI⟩:∃X Q R,Hd ((A0 (sv i) k).1=X/\(A0 (sv i) k).2.1=Q/\(A0 (sv i) k).2.2=R):=⟨_,_,_,Za ⟨rfl,rfl,rfl⟩⟩;rw[HSI.o.1] at c0;rw[HSI.o.2.1] at c1;rw[HSI.o.2.2] at c2;simp only[HSI.o.1,HSI.o.2.1,HSI.o.2.2] at I;obtain⟨st,F,HST⟩:∃st F,Hd ((smp l (16+4*(i:Int)+(k:Int)) 3).1=st/\(smp l (16+4*(i:Int)+(k:Int)) 3).2=F):=⟨_,_,Za ⟨rfl,rfl⟩⟩;simp only[HST.o.1,HST.o.2] at I
       have k0:(0:Int)<=(k:Int):=by omega
       have k1:(k:Int)<(n:Int):=by omega
       have T:=Za (ha.lq (Zb wr (.cells #[Vi X,Vi Q,.bool R] 169)));have U:=Za (hj.lq (Zb wr (.cells #[Vi X,Vi Q,.bool R] 169)));have L:Hd (Blk 169 (wr.alloc (.cells #[Vi X,Vi Q,.bool R] 169)) wr.heap.size [Vi X,Vi Q,.bool R]):=Za (Blk.new wr _ [Vi X,Vi Q,.bool R]);clear ha hj
       go_upto_region 7 with fail;clear c0 c1 c2;generalize wr.alloc (.cells #[Vi X,Vi Q,.bool R] 169)=w0 at *;generalize wr.heap.size=P6 at L|-;have d0:=(L.o.cell (j:=0) rfl).1;have d1:=(L.o.cell (j:=1) rfl).1;have d2:=(L.o.cell (j:=2) rfl).1;have Hp:=Za U.o.range;have ho:=Mj (C.a i 0) (C.a i 1) (C.a i 2) (C.a i 3) (C.a i 4) (C.a i 5) (C.a i 6) (C.a i 7) (C.a i 8) (C.a i 9) (C.a i 10) (C.a i 11) (C.a i 14) (C.p i) (C.q i) (C.al i).length (C.zl i).length (C.cn i) (C.cm i)
       have hp:∀u,Bw w0 u->Va 250 #[Ve B 0,Vi (16+4*(i:Int)+(k:Int)),Vi 3] u (Rt u (.agg #[.bool st,Vi F])):=fun u h=>by
        have:=Ng B a cap l (16+4*(i:Int)+(k:Int)) 3 T.o.many u (cell_later h T.o.said) (T.o.rds.lq h)
        rwa[HST.o.1,HST.o.2] at this
       clear L;refine Cs [32,33,34,35,36,37,38,39,40,31,41,42,7] ?_;refine Cl (x:=.tmp 4) 0 32 [] (fun y w _ u J=>⟨Zf Hp.o J,rfl⟩) underlying38 Zq ?_;refine Cc 1 33 [0] (fun y w h _=>ho _) ?_;refine Cq (fun _ h=>And.intro (cell_later h d0) (And.intro (cell_later h d1) (cell_later h d2))) 2 34 [] ?_;refine Cp 3 35 [] ?_;refine Cp 4 36 [] ?_;refine Cp 5 37 [] ?_;refine Cc 6 38 [4,5] (fun y w h _=>Yc (hm _)) ?_;refine Cc 7 39 [3,6] (fun y w h _=>hp _ h) ?_;refine Cc 8 40 [1,2,7] (fun y w h _=>I _) ?_;refine Cp 9 31 [8] ?_;refine Cp 10 41 [9] ?_;refine Cp 11 42 [9] ?_;refine Ca 12 7 ?_;refine Cn 2 15 [13,14] (fun y u1 M P=>?_);obtain⟨Y,e,N⟩:=P.1;have O:Hd (NB _ _ _ Y [Vi 0,Vi 0,.bool false]):=Za N;(try simp only[e]);clear e N;have A:=Za M;clear M P;refine Ra 13 (fun K hK=>?_);rw[if_pos (by rfl)];refine Z2 169 (.tmp 7) (.tmp 41) rfl Y 0 #[Vi m,Vi H,.bool no] rfl rfl (O.o.1.there (Nat.le_of_ble_eq_true rfl)) Wc (Zm _ rfl) rfl ?_;have W:=Za (Zo [Vi m,Vi H,.bool no] 0 u1 A.o (NB.le O.o));have Hh:Hd (NB 169 w0.heap.size (u1.setCells Y 0 [Vi m,Vi H,.bool no]) Y [Vi m,Vi H,.bool no]):=Za ⟨Blk.setCells [Vi m,Vi H,.bool no] 0 u1 [Vi 0,Vi 0,.bool false] O.o.1,NB.le O.o⟩;generalize hU:World.setCells _ Y 0 _=u2 at *;clear hU;refine hK.out _ _ W.o (fun _=>?_);clear hK K;clear A O;refine Tq 14 W.o ?_;(try simp only[Act.put]);refine Dn ?_;go_simp;have N:=Hh.o;have M:=W.o;clear Hh W;generalize u2=v at N M|-;clear d0 d1 d2 ho hm hp I;refine Ek ?_;have Hq:=Za (T.o.lq M)
       have Hk:Hd (Y≠G i/\B≠G i/\QA≠G i):=Za ⟨by
        have h1:=NB.le N;have h2:=(T.o.servo i hi).2.2.1.lt
        omega,(T.o.servo i hi).2.2.2.2.1.symm,fun e=>by
        have h1:=U.o;have h2:=(T.o.servo i hi).2.2.1;rw[e] at h1
        unfold Blk at h1 h2
        rw[h1] at h2
        simp at h2⟩
       have Hr:=Za N.1;have Hs:=Za (U.o.lq M);clear N M T U Hp
       go_upto_region 10 with fail;have Hl:=Za (Hq.o.lq Vb);have HT:Hd (World.there v.drew (G i) (k*3) 3):=Za ((Hl.o.servo i hi).2.2.1.there (by rw[Wy,Zs,Uk];omega))
       have Ht:Hd (World.rangeAt v.drew Y 0 [Vi m,Vi H,.bool no]/\World.cell? v.drew ⟨B,21+i,none⟩=some (Vf (G i) 0 n (S.sc i))):=Za ⟨(Hr.o.lq Vb).range,by
        have:=(Hl.o.blk.cell (Nz S C _ hi)).1
        rwa[hc,hd] at this⟩
       have D:=Za (And.intro Hk.o.1 Hk.o.2.1)
       have Hn:Hd (FR K wz (World.setCells v.drew (G i) (k*3) [Vi m,Vi H,.bool no]) B S C a cap l (upd (wsx C l sv i) i (wml C l i (sv i) (k+1))) G):=by
        have h:=Hl.o.putServo hi (k:=k) (by rw[Zs,Uk];omega) (m,H,no);rw[Zs,E6,<-HNI.o,Jhj,HNI.o] at h;exact Za h
       have Hx:=Za (Blk.farCells Hk.o.2.2 [Vi m,Vi H,.bool no] (k*3) _ (Hs.o.lq Vb));clear Hq Hr Hl Hs Hk;refine wp_region_held_drew (S:=fun u=>(u.rangeAt Y 0 [Vi m,Vi H,.bool no]/\u.cell? (Ad B (21+i))=some (Vf (G i) 0 n (S.sc i)))) (by kernel_rfl) (Ht.o) (fun _=>?_);have Z:Hd ((v.drew.rangeAt Y 0 [Vi m,Vi H,.bool no]/\v.drew.cell? (Ad B (21+i))=some (Vf (G i) 0 n (S.sc i)))):=Za (Ht.o);refine Tq 0 Z.o ?_;simp only[Act.put,Ly];refine Tq 1 Z.o ?_;simp only[Act.put,Ly];refine Tq 2 Z.o ?_;simp only[Act.put,Ly];refine Tq 3 Z.o ?_;simp only[Act.put,Ly];refine Tq 4 Z.o ?_;simp only[Act.put,Ly];refine Tq 5 Z.o ?_;simp only[Act.put,Ly];refine Th 6 rfl (by intro w J;(try dsimp only at J);have y:=J.2;clear J;go_simp;(try with_reducible rfl)) Z.o ?_;simp only[Act.put,Ly];refine Tq 7 Z.o ?_;simp only[Act.put,Ly];refine Tk 8 rfl (yieldsIf_load_mid (by rfl) 169 (.tmp 7) rfl Y 0 rfl [Vi m,Vi H,.bool no] _ (fun w J=>J.1) underlying169 rfl Wc) Z.o ?_;simp only[Act.put,Ly];refine Tq 9 Z.o ?_;simp only[Act.put,Ly];refine Ra 10 (fun K hK=>?_);rw[if_pos (by rfl)];refine Z2 169 (.tmp 55) (.tmp 54) rfl (G i) (k*3) #[Vi m,Vi H,.bool no] rfl rfl (HT.o) Wc (Zm _ rfl) rfl ?_;have A:=Za (And.intro (World.rangeAt_setCells_apart Z.o.1 (G i) (k*3) [Vi m,Vi H,.bool no] (.inl D.o.1)) (U0 D.o.2 [Vi m,Vi H,.bool no] (k*3) _ Z.o.2));refine hK.out _ _ A.o (fun _=>?_);clear hK K;refine Dn ?_;go_simp;refine Ek ?_;go_wp2_with fail;go_roundw
       case rel=>exact⟨k+1,by omega,by go_num,Hn.o,Hx.o⟩
       case measure=>simp[intOf];omega
     . obtain rfl:k=n:=by omega
       clear hc hd;go_wp2_with fail;go_roundw
       case rel=>exact⟨i+1,by omega,by go_num,by rw[<-Jlu,<-hn];exact ha⟩
       case measure=>simp[intOf];omega
  . obtain rfl:i=2:=by omega
    go_wp2_with fail;go_ret;exact⟨rfl,ha⟩
theorem XS:(prog.info? 167).map (·.size)=some 3:=by kernel_rfl
theorem E7:∀(y h:List Value) (o:Nat),(B8 h o y).length=h.length
 |[],_,_=>rfl
 |v::r,h,o=>by rw[B8,E7 r,List.length_set]
theorem TH(j:Bw u u')(h:Bw w u/\∃y:List Value,y.length=3/\Blk t u Y y):Bw w u'/\∃y:List Value,y.length=3/\Blk t u' Y y:=
 ⟨Zc h.1 j,h.2.elim fun y k=>⟨y,k.1,k.2.lq j⟩⟩
theorem Jo3(m:w.heap.size<=Y)(j:List Value)(o:Nat)(h:Bw w u/\∃y:List Value,y.length=3/\Blk t u Y y):Bw w (u.setCells Y o j)/\∃y:List Value,y.length=3/\Blk t (u.setCells Y o j) Y y:=
 ⟨Zo j o u h.1 m,h.2.elim fun y k=>⟨_,by rw[E7];exact k.1,Blk.setCells j o u y k.2⟩⟩
theorem XT(tmps:Array Value)(U:V6)(Y:Nat)(h:List Value)(h2:tmps.getD 4 undef=Ve Y 0)(y:U.rangeAt Y 0 h)(hn:h.length=3):
 (results Tryz.f251 tmps).run prog U=.ok (.agg h.toArray) U:=by
 have h3:tmps[4]?.getD undef=Ve Y 0:=by simpa using h2
 simp[results,results251,h3,asAddr,run_loadVar_mid U Y 0 167 h _ y underlying167 rfl (by rw[XS,hn])]
theorem Jd4{a:V8}{G:Nat->Nat}(e:FR K wz w B S C a cap l sv G)(i:Nat)(hi:i<2)(hl:(sv i).length<=9):
 Va 251 #[Ve B 0,Vi i] w (Rt w (.agg #[Vi (Zt (S.bk i).o 3),Vi (AI (sv i) (sv i).length),Vi (C.a i 4)])):=by
 have hd:=T2 (S.bk i).b (S.bk i).o (S.bk i).l;have J:=(e.blk.cell (Nz S C _ hi)).1;have E:=(e.blk.cell (Jlc S C _ hi)).1;rw[(e.servo i hi).1,(e.servo i hi).2.1] at J;have M:=Za (e.blk.sub (i*7) 7);rw[Jap S C _ (show i<3 by omega)] at M;have hc:=e.vls hi;rw[(e.servo i hi).1] at hc;have N:=fun u (h:Bw w u)=>NK (sv i) (some (Ad (G i) 0)) (S.sc i) (by omega) u (hc.lq h);obtain⟨H,Z,X⟩:∃H Z,Hd (Zt (S.bk i).o 3=H/\AI (sv i) (sv i).length=Z):=⟨_,_,Za ⟨rfl,rfl⟩⟩;simp only[X.o.1] at hd;simp only[X.o.2] at N;rw[X.o.1,X.o.2]
 have O:(0:Int)<=(i:Int):=by omega
 have U:(i:Int)<2:=by omega
 have A:(i:Int)<3:=by omega
 have T:Hd (Bw w (w.alloc (.cells #[Vi 0,Vi 0,Vi 0] 167))/\∃m:List Value,m.length=3/\Blk 167 (w.alloc (.cells #[Vi 0,Vi 0,Vi 0] 167)) w.heap.size m):=Za ⟨Zb _ _,[Vi 0,Vi 0,Vi 0],rfl,Blk.new w _ [Vi 0,Vi 0,Vi 0]⟩;have P:Hd (w.heap.size<=w.heap.size):=Za (Nat.le_refl _);clear e hc X hi hl
 go_enter func251,ntmps251
 go_upto_region 1 with fail;generalize w.alloc (.cells #[Vi 0,Vi 0,Vi 0] 167)=v at *;have D:Hd (Bw w v.drew/\∃m:List Value,m.length=3/\Blk 167 v.drew w.heap.size m):=Za (And.intro T.o.1.drew (T.o.2.elim fun m h=>⟨m,h.1,h.2.lq Vb⟩));clear T;refine wp_region_held_drew (S:=fun u=>(Bw w u/\∃m:List Value,m.length=3/\Blk 167 u w.heap.size m)) (by kernel_rfl) (D.o) (fun _=>?_);have j:Hd ((Bw w v.drew/\∃m:List Value,m.length=3/\Blk 167 v.drew w.heap.size m)):=Za (D.o);refine Tq 0 j.o ?_;simp only[Act.put,Ly];refine Tq 1 j.o ?_;simp only[Act.put,Ly];refine Tq 2 j.o ?_;simp only[Act.put,Ly];refine Tq 3 j.o ?_;simp only[Act.put,Ly];refine Tq 4 j.o ?_;simp only[Act.put,Ly];refine Tq 5 j.o ?_;simp only[Act.put,Ly];refine Tk 6 rfl (yieldsIf_load_mid (by rfl) 102 (.tmp 10) rfl B (i*7) rfl [Vi ((S.bk i).b 0),Vi ((S.bk i).b 1),Vi ((S.bk i).b 2),.bool ((S.bk i).o 0),.bool ((S.bk i).o 1),.bool ((S.bk i).o 2),Vi (S.bk i).l] _ (fun w ha=>Zf M.o ha.1) underlying102 rfl Xl) j.o ?_;simp only[Act.put,Ly];refine Tq 8 j.o ?_;simp only[Act.put,Ly];refine Tq 9 j.o ?_;simp only[Act.put,Ly];refine Tq 10 j.o ?_;simp only[Act.put,Ly];refine Tq 11 j.o ?_;simp only[Act.put,Ly];refine Tq 12 j.o ?_;simp only[Act.put,Ly];refine Tq 13 j.o ?_;simp only[Act.put,Ly];refine Th 14 rfl (by intro w ha;(try dsimp only at ha);have y:=cell_later ha.1 J;clear ha;go_simp;(try with_reducible rfl)) j.o ?_;simp only[Act.put,Ly];refine Tq 16 j.o ?_;simp only[Act.put,Ly];refine Tq 17 j.o ?_;simp only[Act.put,Ly];refine Tq 18 j.o ?_;simp only[Act.put,Ly];refine Tq 19 j.o ?_;simp only[Act.put,Ly];refine Tq 20 j.o ?_;simp only[Act.put,Ly];refine Tq 21 j.o ?_;simp only[Act.put,Ly];refine Tq 22 j.o ?_;simp only[Act.put,Ly];refine Th 23 rfl (by intro w ha;(try dsimp only at ha);have y:=cell_later ha.1 E;clear ha;go_simp;(try with_reducible rfl)) j.o ?_;simp only[Act.put,Ly];refine Ra 7 (fun K hK=>?_);go_simp;refine Sb (hd _) fun W Q=>?_;have R:=Za (TH Q j.o);clear Q;go_wp2_with fail;refine hK.out _ _ R.o (fun _=>?_);clear hK K
 refine Ra 15 (fun K hK=>?_);go_simp;refine Sb (N _ R.o.1) fun u2 Q=>?_;have Y:=Za (TH Q R.o);clear Q;go_wp2_with fail;refine hK.out _ _ Y.o (fun _=>?_);clear hK K;clear R;refine Tq 24 Y.o ?_;simp only[Act.put,Ly];refine Ra 25 (fun K hK=>?_);rw[if_pos (by rfl)];refine Z2 167 (.tmp 4) (.tmp 29) rfl w.heap.size (0) #[Vi H,Vi Z,Vi (C.a i 4)] rfl rfl (by obtain⟨m,h1,h2⟩:=Y.o.2;exact h2.there (by rw[h1];exact Nat.le_refl _)) XS (Zm _ rfl) rfl ?_;have F:=Za (Jo3 P.o [Vi H,Vi Z,Vi (C.a i 4)] 0 Y.o);have I:=Za (World.rangeAt_setCells_same _ w.heap.size 0 [Vi H,Vi Z,Vi (C.a i 4)] (by obtain⟨m,h1,h2⟩:=Y.o.2;exact h2.there (by rw[h1];exact Nat.le_refl _)));have L:=Za (Zo [Vi H,Vi Z,Vi (C.a i 4)] 0 _ Y.o.1 P.o);refine hK.out _ _ F.o (fun _=>?_);clear hK K;clear Y;refine Dn ?_;go_simp;refine Ek ?_;go_wp2_with fail;exact bodyPost_ret (v:=.agg #[Vi H,Vi Z,Vi (C.a i 4)]) (XT _ _ w.heap.size [Vi H,Vi Z,Vi (C.a i 4)] rfl I.o rfl) rfl ⟨rfl,L.o⟩
theorem C6:(prog.info? 238).map (·.size)=some 5:=by kernel_rfl
theorem Nk(j:Bw u u')(h:Bw w u/\∃y:List Value,y.length=5/\Blk t u Y y):Bw w u'/\∃y:List Value,y.length=5/\Blk t u' Y y:=
 ⟨Zc h.1 j,h.2.elim fun y k=>⟨y,k.1,k.2.lq j⟩⟩
theorem Jo4(m:w.heap.size<=Y)(j:List Value)(o:Nat)(h:Bw w u/\∃y:List Value,y.length=5/\Blk t u Y y):Bw w (u.setCells Y o j)/\∃y:List Value,y.length=5/\Blk t (u.setCells Y o j) Y y:=
 ⟨Zo j o u h.1 m,h.2.elim fun y k=>⟨_,by rw[E7];exact k.1,Blk.setCells j o u y k.2⟩⟩
theorem K7(y h:Value)(w:V6):(Instr.field 175 (.agg #[y,h]) 1).run prog w=.ok h w:=by kernel_rfl
theorem Jlv(tmps:Array Value)(U:V6)(Y:Nat)(h:List Value)(h2:tmps.getD 4 undef=Ve Y 0)(y:U.rangeAt Y 0 h)(hn:h.length=5):
 (results Tryz.f289 tmps).run prog U=.ok (.agg h.toArray) U:=by
 have h3:tmps[4]?.getD undef=Ve Y 0:=by simpa using h2
 simp[results,results289,h3,asAddr,run_loadVar_mid U Y 0 238 h _ y underlying238 rfl (by rw[C6,hn])]
theorem Jo5{a:V8}{G:Nat->Nat}(H:FR K wz w B S C a cap l sv G)(i:Nat)(hi:i<2)(hl:(sv i).length<=9)(hs:∀k,k<(sv i).length->-2147483647<=(A0 (sv i) k).1/\(A0 (sv i) k).1<=2147483647)(h4:2<=C.a i 4/\C.a i 4<=4)(h5:1<=C.a i 5/\C.a i 5<=1000)(h3:0<=C.a i 3/\C.a i 3<=1000)(h7:0<=C.a i 7/\C.a i 7<=1000)(h6:1<=C.a i 6/\C.a i 6<=1000):
 Va 289 #[Ve B 0,Vi i] w fun e w'=>e=.returned (.agg #[Vi (Ze (smp l (32+(i:Int)) 3).2 (-100) 100),Vi (S.bk i).l,Vi (S.bk 2).l,Vi S.n,Vi (Ze (smU (sv i) (sv i).length) (-((C.a i 4-1)*C.a i 5)) ((C.a i 4-1)*C.a i 5))])/\Bw w w':=by
 have D:=Mk (C.a i 0) (C.a i 1) (C.a i 2) (C.a i 3) (C.a i 4) (C.a i 5) (C.a i 6) (C.a i 7) (C.a i 8) (C.a i 9) (C.a i 10) (C.a i 11) (C.a i 14) (C.p i) (C.q i) (C.al i).length (C.zl i).length (C.cn i) (C.cm i) h4 h5 h3 h7 h6;have hc:1<=((C.a i 4-1)*C.a i 5)/\((C.a i 4-1)*C.a i 5)<=3000:=⟨by have:=Int.mul_le_mul (show 1<=C.a i 4-1 by omega) h5.1 (by omega) (by omega);omega,by have:=Int.mul_le_mul (show C.a i 4-1<=3 by omega) h5.2 (by omega) (by omega);omega⟩;have E:=(H.blk.cell (Nz S C _ hi)).1;have hk:=(H.blk.cell (Jaq S C _ (show i<3 by omega))).1;have W:w.cell? (Ad B 20)=some (Vi (S.bk 2).l):=(H.blk.cell (Jaq S C _ (show 2<3 by omega))).1;have hn:=(H.blk.cell (JO S C _)).1;rw[(H.servo i hi).1,(H.servo i hi).2.1] at E;have hd:=H.vls hi;rw[(H.servo i hi).1] at hd;have ho:=fun u (h:Bw w u)=>E5 (sv i) (some (Ad (G i) 0)) (S.sc i) hl hs u (hd.lq h);have hp:=fun u (h:Bw w u)=>Ng B a cap l (32+(i:Int)) 3 H.many u (cell_later h H.said) (H.rds.lq h);generalize ((C.a i 4-1)*C.a i 5)=mo at *;have hr:=GA;have ht:=K7;have F:=Y1 (smp l (32+(i:Int)) 3).2 (-100) 100;have I:=Y1 (smU (sv i) (sv i).length) (-mo) mo;obtain⟨Y,X,R⟩:∃Y X,Hd ((Ze (smp l (32+(i:Int)) 3).2 (-100) 100)=Y/\Ze (smU (sv i) (sv i).length) (-mo) mo=X):=⟨_,_,Za ⟨rfl,rfl⟩⟩;simp only[R.o.1] at F;simp only[R.o.2] at I;rw[R.o.1,R.o.2];generalize smU (sv i) (sv i).length=sm at *;generalize (smp l (32+(i:Int)) 3).2=sz at *;generalize (smp l (32+(i:Int)) 3).1=st at *;have N:=Za ((H.lq (Zb w (.cells #[Vi 0,Vi 0,Vi 0,Vi 0,Vi 0] 238))).blk.sub (30+i*15) 15);rw[Jar S C _ hi] at N
 have i0:(0:Int)<=(i:Int):=by omega
 have i1:(i:Int)<2:=by omega
 have i2:(i:Int)<3:=by omega
 have m0:=hc.1;have m1:=hc.2;have wA1:=Wr (32+(i:Int));have wB1:=Wr (-mo);have L:Hd (Bw w (w.alloc (.cells #[Vi 0,Vi 0,Vi 0,Vi 0,Vi 0] 238))/\∃Z:List Value,Z.length=5/\Blk 238 (w.alloc (.cells #[Vi 0,Vi 0,Vi 0,Vi 0,Vi 0] 238)) w.heap.size Z):=Za ⟨Zb _ _,[Vi 0,Vi 0,Vi 0,Vi 0,Vi 0],rfl,Blk.new w _ [Vi 0,Vi 0,Vi 0,Vi 0,Vi 0]⟩;have O:Hd (w.heap.size<=w.heap.size):=Za (Nat.le_refl _);clear H hd R hi hl hs h4 h5 h3 h7 h6 hc
 go_enter func289,ntmps289
 go_upto_region 1 with fail;generalize w.alloc (.cells #[Vi 0,Vi 0,Vi 0,Vi 0,Vi 0] 238)=v0 at*
 go_upto_region 2 with(first
  |(refine Lm 38 (.tmp 11) rfl B (30+i*15) (axL C i) N.o underlying38 Zq ?_)
  |(go_at_call 153;refine Sb (D _) fun v m=>?_;have U:=Za (Nk m L.o);clear m L))
 clear N D;have A:Hd (Bw w v.drew/\∃Z:List Value,Z.length=5/\Blk 238 v.drew w.heap.size Z):=Za (Nk Vb U.o);clear U;refine wp_region_held_drew (S:=fun u=>(Bw w u/\∃Z:List Value,Z.length=5/\Blk 238 u w.heap.size Z)) (by kernel_rfl) (A.o) (fun _=>?_);have j:Hd ((Bw w v.drew/\∃Z:List Value,Z.length=5/\Blk 238 v.drew w.heap.size Z)):=Za (A.o);refine Tq 0 j.o ?_;simp only[Act.put,Ly];refine Tq 1 j.o ?_;simp only[Act.put,Ly];refine Tq 2 j.o ?_;simp only[Act.put,Ly];refine Tq 6 j.o ?_;simp only[Act.put,Ly];refine Tq 7 j.o ?_;simp only[Act.put,Ly];refine Tq 8 j.o ?_;simp only[Act.put,Ly];refine Tq 9 j.o ?_;simp only[Act.put,Ly];refine Tq 10 j.o ?_;simp only[Act.put,Ly];refine Tq 11 j.o ?_;simp only[Act.put,Ly];refine Tq 12 j.o ?_;simp only[Act.put,Ly];refine Th 13 rfl (by intro w ha;(try dsimp only at ha);have y:=cell_later ha.1 hk;clear ha;go_simp;(try with_reducible rfl)) j.o ?_;simp only[Act.put,Ly];refine Tq 14 j.o ?_;simp only[Act.put,Ly];refine Tq 15 j.o ?_;simp only[Act.put,Ly];refine Tq 16 j.o ?_;simp only[Act.put,Ly];refine Tq 17 j.o ?_;simp only[Act.put,Ly];refine Tq 18 j.o ?_;simp only[Act.put,Ly];refine Tq 19 j.o ?_;simp only[Act.put,Ly];refine Th 20 rfl (by intro w ha;(try dsimp only at ha);have y:=cell_later ha.1 W;clear ha;go_simp;(try with_reducible rfl)) j.o ?_;simp only[Act.put,Ly];refine Tq 21 j.o ?_;simp only[Act.put,Ly];refine Tq 22 j.o ?_;simp only[Act.put,Ly];refine Tq 23 j.o ?_;simp only[Act.put,Ly];refine Tq 24 j.o ?_;simp only[Act.put,Ly];refine Th 25 rfl (by intro w ha;(try dsimp only at ha);have y:=cell_later ha.1 hn;clear ha;go_simp;(try with_reducible rfl)) j.o ?_;simp only[Act.put,Ly];refine Tq 26 j.o ?_;simp only[Act.put,Ly];refine Tq 27 j.o ?_;simp only[Act.put,Ly];refine Tq 28 j.o ?_;simp only[Act.put,Ly];refine Tq 29 j.o ?_;simp only[Act.put,Ly];refine Tq 30 j.o ?_;simp only[Act.put,Ly];refine Tq 31 j.o ?_;simp only[Act.put,Ly];refine Th 32 rfl (by intro w ha;(try dsimp only at ha);have y:=cell_later ha.1 E;clear ha;go_simp;(try with_reducible rfl)) j.o ?_;simp only[Act.put,Ly]
 refine Tq 34 j.o ?_;simp only[Act.put,Ly];refine Tq 35 j.o ?_;simp only[Act.put,Ly];refine Tq 36 j.o ?_;simp only[Act.put,Ly];refine Ra 3 (fun K hK=>?_);go_simp;refine Sb (hp _ j.o.1) fun u1 m=>?_;have J:=Za (Nk m j.o);clear m;go_wp2_with fail;refine hK.out _ _ J.o (fun _=>?_);clear hK K;refine Tq 4 J.o ?_;simp only[Act.put,Ly];refine Ra 5 (fun K hK=>?_);go_simp;refine Sb (F _) fun u2 T=>?_
 have m:Bw u1 u2:=by rw[T];exact Below.refl _ _
 clear T;have M:=Za (Nk m J.o);clear m;go_wp2_with fail;refine hK.out _ _ M.o (fun _=>?_);clear hK K;clear J;refine Ra 33 (fun K hK=>?_);go_simp;refine Sb (ho _ M.o.1) fun u3 m=>?_;have P:=Za (Nk m M.o);clear m;go_wp2_with fail;refine hK.out _ _ P.o (fun _=>?_);clear hK K;clear M;refine Ra 37 (fun K hK=>?_);go_simp;refine Sb (I _) fun u4 T=>?_
 have m:Bw u3 u4:=by rw[T];exact Below.refl _ _
 clear T;have Q:=Za (Nk m P.o);clear m;go_wp2_with fail;refine hK.out _ _ Q.o (fun _=>?_);clear hK K;clear P;refine Tq 38 Q.o ?_;simp only[Act.put,Ly];refine Ra 39 (fun K hK=>?_);rw[if_pos (by rfl)];refine Z2 238 (.tmp 4) (.tmp 53) rfl w.heap.size (0) #[Vi Y,Vi (S.bk i).l,Vi (S.bk 2).l,Vi S.n,Vi X] rfl rfl (by obtain⟨Z,h1,h2⟩:=Q.o.2;exact h2.there (by rw[h1];exact Nat.le_refl _)) C6 (Zm _ rfl) rfl ?_;have Hl:=Za (Jo4 O.o [Vi Y,Vi (S.bk i).l,Vi (S.bk 2).l,Vi S.n,Vi X] 0 Q.o);have Hm:=Za (World.rangeAt_setCells_same _ w.heap.size 0 [Vi Y,Vi (S.bk i).l,Vi (S.bk 2).l,Vi S.n,Vi X] (by obtain⟨Z,h1,h2⟩:=Q.o.2;exact h2.there (by rw[h1];exact Nat.le_refl _)));have Hn:=Za (Zo [Vi Y,Vi (S.bk i).l,Vi (S.bk 2).l,Vi S.n,Vi X] 0 _ Q.o.1 O.o);refine hK.out _ _ Hl.o (fun _=>?_);clear hK K;clear Q;refine Dn ?_;go_simp;refine Ek ?_;go_wp2_with fail;exact bodyPost_ret (v:=.agg #[Vi Y,Vi (S.bk i).l,Vi (S.bk 2).l,Vi S.n,Vi X]) (Jlv _ _ w.heap.size [Vi Y,Vi (S.bk i).l,Vi (S.bk 2).l,Vi S.n,Vi X] rfl Hm.o rfl) rfl ⟨rfl,Hn.o⟩
theorem Jo6:(prog.info? 167).map (fun i=>(i.zero,i.size,i.bytes))=some (some (.agg #[Vi 0,Vi 0,Vi 0]),3,24):=by kernel_rfl
theorem Jhm(y:V6)(X Y Z:Value)(t:TypeId):∀j u,[X,Y,Z][j]?=some u->(y.alloc (.cells #[X,Y,Z] t)).cell? ((⟨y.heap.size,0,none⟩:Addr).add j)=some u:=by
 intro j u h
 match j with
 |0=>simp at h;subst h;simp[go_sem,Addr.add]
 |1=>simp at h;subst h;simp[go_sem,Addr.add]
 |2=>simp at h;subst h;simp[go_sem,Addr.add]
 |j+3=>simp at h
theorem Jlw{x0 y0 z0 x1 y1 z1:Int}(h:w.ownsRow B e 3 (Vf g 0 2 cap) 2 [Vi x0,Vi y0,Vi z0,Vi x1,Vi y1,Vi z1]):HLs w (some (Ad g 0)) [(x0,y0,z0),(x1,y1,z1)]:=by
 refine .inr ⟨g,0,rfl,fun k hk=>?_⟩;have hk:k<2:=hk
 rcases Qtw k with rfl|rfl
 . exact⟨h.cellAt 0 (by omega),h.cellAt 1 (by omega),h.cellAt 2 (by omega)⟩
 . exact⟨h.cellAt 3 (by omega),h.cellAt 4 (by omega),h.cellAt 5 (by omega)⟩
def heM(C:CR)(S:FS)(sv:Nat->List Sv)(i:Nat):He:=(Zt (S.bk i).o 3,AI (sv i) (sv i).length,C.a i 4)
def lwM(C:CR)(S:FS)(l:List Rd)(sv:Nat->List Sv):Int:=neI S.n (waI [heM C S sv 0,heM C S sv 1]) (decide ((smp l 40 3).2=1))
theorem Ja9{x y:He}(h0:heE x.1 x.2.1 x.2.2=0)(h1:heE y.1 y.2.1 y.2.2=0):weU [x,y] 2=0:=by
 have a:weU [x,y] 1=0:=by rw[E8];simpa[weU,AD] using h0
 rw[E8,if_pos a];exact h1
theorem Jba(c s n:Int):0<=BT c s n/\BT c s n<=3:=by
 unfold BT;split<;>(try split)<;>(try split)<;>(try split)<;>omega
theorem Jbb{x y:He}(h0:heE x.1 x.2.1 x.2.2=0)(h1:heE y.1 y.2.1 y.2.2=0):waI [x,y]=mxL (mxL 0 (BT x.1 x.2.1 x.2.2)) (BT y.1 y.2.1 y.2.2):=by
 unfold waI
 rw[if_pos (by exact Ja9 h0 h1)]
 rfl
theorem XX{x y:He}(h0:heE x.1 x.2.1 x.2.2=0)(h1:heE y.1 y.2.1 y.2.2=0):A1 (waI [x,y]) 0 3=true:=by
 rw[Jbb h0 h1];have a:=Jba x.1 x.2.1 x.2.2;have b:=Jba y.1 y.2.1 y.2.2
 unfold mxL
 simp only[A1,Bool.and_eq_true,decide_eq_true_eq]
 split<;>(try split)<;>omega
theorem P8{a:V8}{G:Nat->Nat}(j:FR K wz w B S C a cap l sv G)(hl:∀i,i<2->(sv i).length<=9)(h0:heE (heM C S sv 0).1 (heM C S sv 0).2.1 (heM C S sv 0).2.2=0)(h1:heE (heM C S sv 1).1 (heM C S sv 1).2.1 (heM C S sv 1).2.2=0)(hn:A1 S.n 0 3=true):
 Va 206 #[Ve B 0] w fun e w'=>e=.returned .nilIface/\FR K wz w' B ({ S with n:=lwM C S l sv }:FS) C a cap l sv G:=by
 obtain⟨D,hi,hk,E,ho⟩:=info_parts Jo6;have Y:=fun u (h:Bw w u) i hi=>Jd4 (j.lq h) i hi (hl i hi);have W:=fun u h=>Y u h 0 (by omega);have hs:=fun u h=>Y u h 1 (by omega);have ht:=fun u (h:Bw w u)=>Ng B a cap l 40 3 j.many u (cell_later h j.said) (j.rds.lq h);have hd:=XU [heM C S sv 0,heM C S sv 1];simp only[Ja9 h0 h1,show[heM C S sv 0,heM C S sv 1].length=2 from rfl,Z0] at hd;have y:=XX h0 h1;have X:=Jf6 S.n (waI [heM C S sv 0,heM C S sv 1]) (decide ((smp l 40 3).2=1))
 have F:neE S.n (waI [heM C S sv 0,heM C S sv 1])=0:=by unfold neE;rw[hn,y];rfl
 simp only[F,Z0] at X;have HF:=Za j;have hu:=(j.blk.cell (JO S C _)).1;have I:Hd (neI S.n (waI [heM C S sv 0,heM C S sv 1]) (decide ((smp l 40 3).2=1))=lwM C S l sv):=Za rfl;rw[I.o] at X;generalize lwM C S l sv=nl at *;generalize waI [heM C S sv 0,heM C S sv 1]=wl at *;have m:=Za (Below.refl w.heap.size w);simp only[heM] at hd;generalize Zt (S.bk 0).o 3=p0 at *;generalize Zt (S.bk 1).o 3=p1 at *;generalize AI (sv 0) (sv 0).length=q0 at *;generalize AI (sv 1) (sv 1).length=q1 at *;have hv:=K7;clear j h0 h1 hn hl Y y F I
 go_enter func206,ntmps206
 go_upto_region 3 with fail;refine wp_loop_rounds 3 ?_;rw[rounds_succ]
 go_wp2_with (first
  |(go_at_call 251;refine Sb (W _ m.o) fun L y=>?_;have m:=Za (Zc m.o y);clear y)
  |(at_builtin;refine wpList_append_lies _ rfl _ _ 357 rfl w.heap.size 167 D (.agg #[.int .i64 0,.int .i64 0,.int .i64 0]) 3 24 underlying357 hi hk E ho rfl (by decide) _ _ _ rfl (World.ownsRow_nil _ _ _ _) ⟨L.heap.size,0,none⟩ 1 1 [.int .i64 p0,.int .i64 q0,.int .i64 (C.a 0 4)] rfl rfl (Jhm L _ _ _ _) (fun x hx=>by simp at hx;rcases hx with rfl|rfl|rfl<;>rfl) (by omega) (by unfold maxLen;omega) (by omega) (Zc m.o Vc).size _ rfl ?_;intro g0 c0 v0 hc ha Q R;have H:=Za hc;have T:=Za ((Zc m.o Vc).grown ha (Zc m.o Vc).size (fun q J=>by cases J));clear hc ha Q R m))
 rw[rounds_succ]
 go_wp2_with (first
  |(go_at_call 251;refine Sb (hs _ T.o) fun O y=>?_;have Z:=Za (Zc T.o y);have H:=Za (Xc H.o y);clear y T)
  |(at_builtin;refine wpList_append_lies _ rfl _ _ 357 rfl w.heap.size 167 D (.agg #[.int .i64 0,.int .i64 0,.int .i64 0]) 3 24 underlying357 hi hk E ho rfl (by decide) _ _ _ rfl (H.o.alloc _) ⟨O.heap.size,0,none⟩ 1 1 [.int .i64 p1,.int .i64 q1,.int .i64 (C.a 1 4)] rfl rfl (Jhm O _ _ _ _) (fun x hx=>by simp at hx;rcases hx with rfl|rfl|rfl<;>rfl) (by omega) (by unfold maxLen;omega) (by omega) (Zc Z.o Vc).size _ rfl ?_;intro g1 c1 v1 hc ha Q R;have Hl:=Za hc;have U:=Za ((Zc Z.o Vc).grown ha (Zc Z.o Vc).size (fun q J=>(H.o.lt q J).1));clear hc ha Q R Z))
 rw[rounds_succ];have A:=Za (Jlw Hl.o)
 go_wp2_with (first
  |(go_at_call 252;refine Sb (hd _ _ (by omega) _ A.o) fun u2 y=>?_;have M:=Za (Zc U.o y);clear y U A)
  |(go_at_call 250;refine Sb (ht _ M.o) fun u3 y=>?_;have N:=Za (Zc M.o y);clear y M;have hw:=cell_later N.o hu)
  |(go_at_call 253;refine Sb (X _) fun u4 y=>?_;have Hm:=Za (Zc N.o y);clear y N;have P:=Za (HF.o.lq Hm.o);have hy:=(P.o.blk.cell (JO S C _)).1;have hz:=(P.o.blk.cell (JO S C _)).2))
 go_ret;exact⟨rfl,P.o.put _ [Vi nl] 29 (Jdi S C _ nl) ⟨rfl,rfl⟩⟩
theorem Jbl:(prog.info? 105).map (·.size)=some 2:=by kernel_rfl
def spL(S:FS):List Value:=[.slice (S.sp 0) (S.sn 0) (S.sc 0),.slice (S.sp 1) (S.sn 1) (S.sc 1)]
theorem Jee(S:FS)(C:CR)(x:Value):((frL S C x).drop 21).take 2=spL S:=rfl
theorem Jro(S:FS)(i:Nat)(hi:i<2)(w:V6):(Instr.index 105 (.agg (spL S).toArray) (Vi (i:Int))).run prog w=.ok (.slice (S.sp i) (S.sn i) (S.sc i)) w:=by
 rcases Qtw i with rfl|rfl<;>kernel_rfl
def rd1(i:Nat)(L:List Sv)(k:Nat):Rd:=(64+4*(i:Int)+(k:Int),3,(if(A0 L k).2.2 then 0 else 3),(A0 L k).1)
def rdU(i:Nat)(L:List Sv):Nat->List Rd
 |0=>[]
 |k+1=>rdU i L k++[rd1 i L k]
def rdX(sv:Nat->List Sv):Nat->List Rd
 |0=>[]
 |i+1=>rdX sv i++rdU i (sv i) (sv i).length
def rdA(sv:Nat->List Sv)(n:Int):List Rd:=rdX sv 2++[(80,3,3,n)]
theorem W6(i:Nat)(L:List Sv):∀k,(rdU i L k).length=k
 |0=>rfl
 |k+1=>by rw[rdU,List.length_append,W6 i L k];rfl
theorem EA(sv:Nat->List Sv)(h:∀i,i<2->(sv i).length<=9):∀i,i<=2->(rdX sv i).length<=9*i
 |0,_=>by simp[rdX]
 |i+1,hi=>by
  have a:=EA sv h i (by omega);have b:=h i (by omega);rw[rdX,List.length_append,W6];omega
theorem FL:∀(l:List Rd) (k:Nat),k<l.length->(A9 l)[k*4]?=some (Vi (rat l k).1)/\(A9 l)[k*4+1]?=some (Vi (rat l k).2.1)/\(A9 l)[k*4+2]?=some (Vi (rat l k).2.2.1)/\(A9 l)[k*4+3]?=some (Vi (rat l k).2.2.2)
 |[],_,h=>by simp at h
 |r::l,0,_=>⟨rfl,rfl,rfl,rfl⟩
 |r::l,k+1,h=>by
  have:=FL l k (by simpa using h);have e:A9 (r::l)=Vi r.1::Vi r.2.1::Vi r.2.2.1::Vi r.2.2.2::A9 l:=rfl;rw[e,show(k+1)*4=k*4+1+1+1+1 by omega]
  simpa[rat,Nat.add_right_comm] using this
theorem D2(hn:n=l.length)(h:w.ownsRow B e 4 (Vf g 0 n cap) n (A9 l)):Rds w (some (Ad g 0)) l:=by
 subst hn;refine .inr ⟨g,rfl,fun k hk=>?_⟩;have f:=FL l k hk;exact⟨(h.cellAt (k*4) (by omega)).trans f.1,(h.cellAt (k*4+1) (by omega)).trans f.2.1,(h.cellAt (k*4+2) (by omega)).trans f.2.2.1,(h.cellAt (k*4+3) (by omega)).trans f.2.2.2⟩
theorem NO{base:Nat}{size:Nat}{v:Value}{xs:List Value}(h:w.ownsRow base e size v n xs):some w.heap.size≠v.ownBlock:=fun e=>by have:=(h.lt _ e.symm).2;omega
theorem EB(y:Bw u u')(h:Bw w u/\u.rangeAt P 0 cs):Bw w u'/\u'.rangeAt P 0 cs:=⟨Zc h.1 y,Zf h.2 y⟩
theorem UA{row:Option Nat}(y:u.grownBy u' row)(m:∀k,row=some k->w.heap.size<=k)(e:some P≠row)(h:Bw w u/\u.rangeAt P 0 cs):Bw w u'/\u'.rangeAt P 0 cs:=⟨h.1.grown y h.1.size m,fun j v H=>y.cell (h.2 j v H) e⟩
theorem UB{a:V8}{G:Nat->Nat}(M:FR K wz w B S C a cap l sv G)(hl:∀i,i<2->(sv i).length<=9):
 Va 255 #[Ve B 0] w fun e w'=>(∃g c,e=.returned (Vf g 0 (rdA sv S.n).length c)/\Rds w' (some (Ad g 0)) (rdA sv S.n))/\Bw w w':=by
 obtain⟨U,A,ho,W,hr⟩:=info_parts IC;have Q:=Za M;have HL:=Za hl;have N:=Za (M.blk.sub 21 2);rw[Jee] at N;have Hj:=Za (EA sv hl);clear M hl
 go_enter func255,ntmps255
 go_upto_region 3 with(refine Lm 105 (.tmp 11) rfl B 21 (spL S) N.o underlying105 Jbl ?_);clear N
 go_loopw [3,13] (fun s0 ix wr=>∃i:Nat,i<=2/\ix=Vi i/\wr.ownsRow w.heap.size 155 4 s0 (rdX sv i).length (A9 (rdX sv i))/\Bw w wr) (fun _ ix _=>2-(intOf ix).toNat)
 case atStart=>exact⟨0,by omega,rfl,World.ownsRow_nil _ _ _ _,Below.refl _ _⟩
 case round=>
  obtain⟨i,hx,rfl,ha,hd⟩:=hrel
  by_cases hi:i<2
  . have hh:=Jro S i hi
    have i1:(0:Int)<=(i:Int):=by omega
    have i2:(i:Int)<2:=by omega
    have hs:S.sp i=some (Ad (G i) 0):=(Q.o.servo i hi).1;obtain⟨n,hn⟩:∃n,n=(sv i).length:=⟨_,rfl⟩
    have ht:S.sn i=n:=by rw[hn];exact(Q.o.servo i hi).2.1
    rw[hs,ht] at hh
    have hy:n<=9:=by rw[hn];exact HL.o i hi
    go_upto_region 6 with fail
    go_loopw [3,19] (fun s1 ix wr=>∃k:Nat,k<=n/\ix=Vi k/\wr.ownsRow w.heap.size 155 4 s1 ((rdX sv i).length+k) (A9 (rdX sv i++rdU i (sv i) k))/\Bw w wr) (fun _ ix _=>n-(intOf ix).toNat)
    case atStart=>exact⟨0,Nat.zero_le _,rfl,by rw[rdU,List.append_nil];exact ha,hd⟩
    case round=>
     clear ha hd;obtain⟨k,hk,rfl,ha,hd⟩:=hrel
     by_cases hlt:k<n
     . have g:=((Q.o.lq hd).servo i hi).2.2.1.sub (k*3) 3;rw[K5 _ k (by omega)] at g;have c0:wr.cell? (Ad (G i) (k*3))=some (Vi (A0 (sv i) k).1):=g 0 _ rfl;have c1:wr.cell? (Ad (G i) (k*3+1))=some (Vi (A0 (sv i) k).2.1):=g 1 _ rfl;have c2:wr.cell? (Ad (G i) (k*3+2))=some (.bool (A0 (sv i) k).2.2):=g 2 _ rfl;have Hn:Hd (rd1 i (sv i) k=(64+4*(i:Int)+(k:Int),3,(if(A0 (sv i) k).2.2 then 0 else 3),(A0 (sv i) k).1)):=Za rfl;have hu:=fun u=>(Mu 64 (i:Int) (k:Int) u).mono (fun _ w' h=>And.intro h.1 (show Bw u w' by rw[h.2];exact Below.refl _ _));have hv:=XR (A0 (sv i) k).1 (A0 (sv i) k).2.1 (A0 (sv i) k).2.2;generalize (if(A0 (sv i) k).2.2 then(0:Int) else 3)=st at *;generalize (A0 (sv i) k).1=si at *;generalize (A0 (sv i) k).2.1=m at *;generalize (A0 (sv i) k).2.2=so at *;generalize 64+4*(i:Int)+(k:Int)=lb at*
       have k0:(0:Int)<=(k:Int):=by omega
       have k1:(k:Int)<(n:Int):=by omega
       have hw:=Hj.o i (by omega);have Hk:=Za (Zc hd (Zb wr (.cells #[Vi si,Vi m,.bool so] 169)));have j:=Za (ha.alloc (.cells #[Vi si,Vi m,.bool so] 169));have P:Hd (Blk 169 (wr.alloc (.cells #[Vi si,Vi m,.bool so] 169)) wr.heap.size [Vi si,Vi m,.bool so]):=Za (Blk.new wr _ [Vi si,Vi m,.bool so]);have Hl:=Za (NO ha);clear g ha hd
       go_upto_region 8 with fail;clear c0 c1 c2;generalize wr.alloc (.cells #[Vi si,Vi m,.bool so] 169)=v7 at *;generalize wr.heap.size=P7 at P Hl|-;have j:=Za (Xc j.o Vb);have Hm:Hd (Bw w v7.drew/\v7.drew.rangeAt P7 0 [Vi si,Vi m,.bool so]):=Za ⟨Zc Hk.o Vb,(P.o.lq Vb).range⟩;clear Hk P;refine wp_region_held_drew (S:=fun u=>(Bw w u/\u.rangeAt P7 0 [Vi si,Vi m,.bool so])) (by kernel_rfl) (Hm.o) (fun _=>?_);have H:Hd ((Bw w v7.drew/\v7.drew.rangeAt P7 0 [Vi si,Vi m,.bool so])):=Za (Hm.o);refine Tq 0 H.o ?_;simp only[Act.put,Ly];refine Tq 1 H.o ?_;simp only[Act.put,Ly];refine Tq 2 H.o ?_;simp only[Act.put,Ly];refine Tk 4 rfl (yieldsIf_load_mid (by rfl) 169 (.tmp 7) rfl P7 0 rfl [Vi si,Vi m,.bool so] _ (fun w Y=>Y.2) underlying169 rfl Wc) H.o ?_;simp only[Act.put,Ly];refine Tq 6 H.o ?_;simp only[Act.put,Ly];refine Th 7 rfl (by intro w Y;(try dsimp only at Y);have y:w.cell? (Ad P7 0)=_:=Y.2 0 _ rfl;clear Y;go_simp;(try with_reducible rfl)) H.o ?_;simp only[Act.put,Ly];refine Ra 3 (fun K hK=>?_);go_simp;refine Sb (hu _) fun u1 Z=>?_;have D:=Za (EB Z H.o);have j:=Za (Xc j.o Z);clear Z;go_wp2_with fail;refine hK.out _ _ D.o (fun _=>?_);clear hK K;refine Ra 5 (fun K hK=>?_);go_simp;refine Sb (hv _) fun R Z=>?_;have T:=Za (EB Z D.o);have j:=Za (Xc j.o Z);clear Z;go_wp2_with fail;refine hK.out _ _ T.o (fun _=>?_);clear hK K;clear D;refine Tq 8 T.o ?_;simp only[Act.put,Ly];refine Ra 9 (fun K hK=>?_);go_simp;have X:=Za (EB (Zb R (.cells #[Vi lb,Vi 3,Vi st,Vi si] 155)) T.o);have j:=Za (j.o.alloc (.cells #[Vi lb,Vi 3,Vi st,Vi si] 155));have E:=Za (Uh R (lb,3,st,si));generalize R.alloc (.cells #[Vi lb,Vi 3,Vi st,Vi si] 155)=u3 at X j E|-;generalize R.heap.size=X9 at E|-;refine hK.out _ _ X.o (fun _=>?_);clear hK K;clear T;refine Ra 10 (fun K hK=>?_);simp only[Ly];rw[if_pos (by rfl)]
       refine wp_append_lies _ (.tmp 24) (.tmp 33) 159 rfl w.heap.size 155 U (.agg #[Vi 0,Vi 0,Vi 0,Vi 0]) 4 32 Y9 A ho W hr rfl (by decide) _ _ _ rfl j.o ⟨X9,0,none⟩ 1 1 (AG (lb,3,st,si)) rfl rfl E.o (Wm _) (by omega) (by unfold maxLen;omega) (by omega) X.o.1.size _ rfl ?_;intro g9 c9 u4 ha hc F I;have J:=Za (UA hc (fun q L=>(j.o.lt q L).1) Hl.o X.o);have j:=Za ha;clear ha hc F I;refine hK.out _ _ J.o (fun _=>?_);clear hK K;clear X;refine Tq 11 J.o ?_;simp only[Act.put,Ly];refine Dn ?_;go_simp;have hB:=J.o.1;clear J;generalize u4=v8 at hB j|-;refine Ek ?_;go_wp2_with fail;go_roundw
       case rel=>exact⟨k+1,by omega,by go_num,by rw[rdU,<-List.append_assoc,F7,Hn.o];exact j.o,hB⟩
       case measure=>simp[intOf];omega
     . obtain rfl:k=n:=by omega
       go_wp2_with fail;go_roundw
       case rel=>exact⟨i+1,by omega,by go_num,by rw[rdX,List.length_append,W6,<-hn];exact ha,hd⟩
       case measure=>simp[intOf];omega
  . obtain rfl:i=2:=by omega
    have hz:=((Q.o.lq hd).blk.cell (JO S C _)).1;have hw:=Hj.o 2 (by omega);have j:=Za ha;have O:=Za hd;clear ha hd
    go_wp2_with (at_builtin;refine wpList_append_lies _ rfl _ _ 159 rfl w.heap.size 155 U (.agg #[Vi 0,Vi 0,Vi 0,Vi 0]) 4 32 Y9 A ho W hr rfl (by decide) _ _ _ rfl (j.o.alloc _) ⟨wr.heap.size,0,none⟩ 1 1 (AG (80,3,3,S.n)) rfl rfl (Uh wr (80,3,3,S.n)) (Wm _) (by omega) (by unfold maxLen;omega) (by omega) (Zc O.o Vc).size _ rfl ?_;intro g9 c9 v9 ha hc F I);have HE:=Za ha;have Ho:=Za ((Zc O.o Vc).grown hc (Zc O.o Vc).size (fun q L=>(j.o.lt q L).1));clear ha hc F I;go_ret;refine⟨⟨g9,c9,?_,?_⟩,Ho.o⟩
    . rw[rdA,List.length_append];rfl
    . exact D2 (n:=(rdX sv 2).length+1) (by simp[rdA]) (by rw[rdA,F7];exact HE.o)
end Go.Proofs.YtnepnnkdgejheaaGreatDoor
