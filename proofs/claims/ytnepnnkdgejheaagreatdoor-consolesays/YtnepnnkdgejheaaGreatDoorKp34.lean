
import Derived.Test.YtnepnnkdgejheaaGreatDoorKp32
set_option maxRecDepth 100000
set_option maxHeartbeats 20000000
namespace Go.Proofs.YtnepnnkdgejheaaGreatDoor
open Go.RowKit Plain Tryz
variable {B QH QK QR QZ cap g n:Nat}{C R S T:Int}{L:List Sv}{ak h1 rc:List Value}{e:TypeId}{u u' w:V6}
theorem Jjc(y:Bw u u')(h:(V0 u w 0 T/\V0 u w 1 R/\V0 u w 2 S/\V0 u w 3 C)/\Bw w u):(V0 u' w 0 T/\V0 u' w 1 R/\V0 u' w 2 S/\V0 u' w 3 C)/\Bw w u':=⟨B4.lq h.1 y,Zc h.2 y⟩
theorem L3{w3:V6}{bl ol k cv:Nat}{ao:V8}{q:List Value}{i b:Int}{o:Bool}(y:Bw u u')(h:(V0 u w 0 T/\V0 u w 1 R/\V0 u w 2 S/\V0 u w 3 C)/\(V2 u bl (ol+k*3) i/\V2 u bl (ol+k*3+1) b/\Kc u bl (ol+k*3+2) (.bool o))/\Bw w3 u/\u.ownsRow w3.heap.size 3 1 (.slice ao k cv) k q):(V0 u' w 0 T/\V0 u' w 1 R/\V0 u' w 2 S/\V0 u' w 3 C)/\(V2 u' bl (ol+k*3) i/\V2 u' bl (ol+k*3+1) b/\Kc u' bl (ol+k*3+2) (.bool o))/\Bw w3 u'/\u'.ownsRow w3.heap.size 3 1 (.slice ao k cv) k q:=
 ⟨B4.lq h.1 y,⟨cell_later y h.2.1.1,cell_later y h.2.1.2.1,cell_later y h.2.1.2.2⟩,Zc h.2.2.1 y,Xc h.2.2.2 y⟩
theorem VA{a:V8}{zs:V9}(hn:n=zs.length)(h:w.ownsRow B 3 1 (.slice a n cap) n (zs.map (Value.int .i64))):ILs w a zs:=by
 subst hn
 by_cases h0:zs.length=0
 . exact .inl (List.length_eq_zero_iff.mp h0)
 . right
   obtain⟨g,c,y,j,m⟩:=h.form (by omega);simp only[Value.slice.injEq] at y;obtain⟨rfl,_,rfl⟩:=y;refine⟨g,0,rfl,fun k hk=>?_⟩
   show World.cell? _ _=_
   rw[Nat.zero_add,h.cellAt k (by omega),List.getElem?_map,List.getElem?_eq_getElem hk,List.getD_eq_getElem?_getD,List.getElem?_eq_getElem hk]
   rfl
theorem MD(T R S C sum v:Int)(l:List Sv)(a:V8)(B:Nat)(hd:AV T R S C l)(h4:l.length<=4)(P:C4 T R l (Ze sum (tot T R l (-T)) (tot T R l T)) v)(w:V6)(hw:VLs w a l):
 Va 138 #[.agg #[Vi T,Vi R,Vi S,Vi C],.slice a l.length B,Vi sum] w fun e w'=>(∃x cap,e=.returned (.slice x l.length cap)/\ILs w' x (dlU T R l v (Ze sum (tot T R l (-T)) (tot T R l T)-tot T R l v) l.length))/\Bw w w':=by
 obtain⟨i0,hi,ht,hy,hz⟩:=info_parts F0;have H:=Za (RB.new w T R S C);have D:=Za hw;have K:=Za hd;have ⟨t0,t1⟩:=(Yh hd.1).1;have b1:=FA hd (-T);have b2:=FA hd T;have HM:=Za (Ni T R l (show -T<=T by omega));obtain⟨Q,HSE⟩:∃Q,Hd (Ze sum (tot T R l (-T)) (tot T R l T)=Q):=⟨_,rfl⟩;have hn:=Yx sum (tot T R l (-T)) (tot T R l T) (h:=HM.o);have bs:=Xb (v:=sum) HM.o;rw[HSE.o] at P hn bs;have Hb:=Za P;have bv:=And.intro P.1 P.2.1;have Hf:=Za bs.1;have hl:=fun v u E=>Jd2 T R S C l v a B hd (by omega) u E;have ho:∀u,((V0 u w 0 T/\V0 u w 1 R/\V0 u w 2 S/\V0 u w 3 C)/\Bw w u)->Va 187 #[.agg #[Vi T,Vi R,Vi S,Vi C],.slice a l.length B,Vi (-T)] u (Rt u (Vi (tot T R l (-T)))):=fun u E=>hl _ u (D.o.lq E.2);have hr:∀u,((V0 u w 0 T/\V0 u w 1 R/\V0 u w 2 S/\V0 u w 3 C)/\Bw w u)->Va 187 #[.agg #[Vi T,Vi R,Vi S,Vi C],.slice a l.length B,Vi T] u (Rt u (Vi (tot T R l T))):=fun u E=>hl _ u (D.o.lq E.2);have v1:=Wr (-T)
 have hA:(l.length:Int)<=4:=by omega
 clear hw hd P;obtain⟨s,HS0⟩:∃s,Hd (Q-tot T R l v=s):=⟨_,rfl⟩;rw[HSE.o,HS0.o]
 go_enter func138,ntmps138
 go_upto_region 1 with fail;have M:((w.alloc (.cells #[Vi T,Vi R,Vi S,Vi C] 172)).cell? (Ad w.heap.size 0)=some (Vi T)/\(w.alloc (.cells #[Vi T,Vi R,Vi S,Vi C] 172)).cell? (Ad w.heap.size 1)=some (Vi R)/\(w.alloc (.cells #[Vi T,Vi R,Vi S,Vi C] 172)).cell? (Ad w.heap.size 2)=some (Vi S)/\(w.alloc (.cells #[Vi T,Vi R,Vi S,Vi C] 172)).cell? (Ad w.heap.size 3)=some (Vi C))/\Bw w (w.alloc (.cells #[Vi T,Vi R,Vi S,Vi C] 172)):=⟨H.o.1,H.o.2⟩;generalize (w.alloc (.cells #[Vi T,Vi R,Vi S,Vi C] 172))=w0 at *;have Z:=Za M
 go_cut [2] (fun c u=>c=Vi Q/\((V0 u w 0 T/\V0 u w 1 R/\V0 u w 2 S/\V0 u w 3 C)/\Bw w u))
 case first=>
  generalize tot T R l (-T)=tA at *;generalize tot T R l T=tB at*
  go_region_held3 (fun u=>(V0 u w 0 T/\V0 u w 1 R/\V0 u w 2 S/\V0 u w 3 C)/\Bw w u)
   (first
    |(with_reducible assumption)
    |(with_reducible apply Jjc;with_reducible assumption;with_reducible assumption)
    |(refine Jjc ?_ Z.o;exact Vb))
   (first
    |(go_at_call_of 187 (-T);refine Sb (ho _ (by with_reducible assumption)) fun w' hb=>?_)
    |(go_at_call 187;refine Sb (hr _ (by with_reducible assumption)) fun w' hb=>?_)
    |(go_at_call 72;refine Sm (hn _) ?_))
  all_goals
   rename_i m
   go_wp2_with fail
   go_meet
   (case rel=>exact⟨rfl,m⟩)
 case rest=>
  obtain⟨rfl,m⟩:=hcut;rename World=>wb;clear M Z H ho hr;have H:=Za (show RB w wb T R S C from m);obtain⟨q0,W,q2,q3⟩:=m.1;clear m;go_wp2
  go_loopw [7] (fun x wr=>∃j:Int,x=Vi j/\-T<=j/\j<=T/\(j<T->Q<tot T R l (j+1))/\RB w wr T R S C) (fun x _=>(intOf x+T).toNat)
  case atStart=>exact⟨T,rfl,by omega,by omega,fun h=>by omega,H.o⟩
  case round=>
   clear H q0 W q2 q3;obtain⟨j,rfl,l0,l1,hs,hR⟩:=hrel;have HU:=Za hs;have H:=Za hR;obtain⟨q0,W,q2,q3⟩:=hR.1;have hc:=hl j;clear hs hR;obtain⟨F,HTT⟩:∃F,Hd (tot T R l j=F):=⟨_,rfl⟩;rw[HTT.o] at hc
   by_cases hgo:-T<j/\Q<F
   . obtain⟨g1,g2⟩:=hgo
     go_wp2_with (go_at_call 187;refine Sb (hc _ (D.o.lq H.o.2)) fun w1 I=>?_;have H:=Za (H.o.lq I);clear I);go_roundw
     case rel=>exact⟨j-1,rfl,by omega,by omega,fun _=>by rw[show j-1+1=j by omega,HTT.o];exact g2,H.o⟩
     case measure=>simp[intOf];omega
   . have L:Hd (C4 T R l Q j):=by
      refine⟨l0,l1,?_,HU.o⟩
      by_cases O:-T<j
      . have:¬Q<F:=fun h=>hgo ⟨O,h⟩;rw[HTT.o];omega
      . rw[show j=-T by omega];exact Hf.o
     have ev:=L.o.unique Hb.o;subst ev;have hB:=FA K.o j;have hm:tot T R l j<=Q:=L.o.2.2.1
     have s0:0<=s/\s<=40000:=by have:=HS0.o;omega
     rw[HTT.o] at hB hm HS0
     have hC:(-T<j/\¬Q<F)\/¬-T<j:=by
      by_cases O:-T<j
      . exact .inl ⟨O,fun h=>hgo ⟨O,h⟩⟩
      . exact .inr O
     clear hgo Hb L HU
     rcases hC with⟨g1,g2⟩|g1
     all_goals
      go_wp2_with (go_at_call 187;refine Sb (hc _ (D.o.lq H.o.2)) fun w1 I=>?_;have H:=Za (H.o.lq I);obtain⟨q0,W,q2,q3⟩:=H.o.1;clear I);rename World=>w3;clear g1;clear q0 W q2 q3 hc hl;rw[HS0.o]
      go_loopw [8,9,10] (fun x vv ix wr=>∃(k:Nat) (G:V8) (J:Nat),k<=l.length/\ix=Vi k/\x=Vi (lfU T R l j s k)/\vv=.slice G k J/\wr.ownsRow w3.heap.size 3 1 vv k ((dlU T R l j s k).map (Value.int .i64))/\Bw w3 wr) (fun _ _ ix _=>l.length-(intOf ix).toNat)
      case atStart=>exact⟨0,none,0,Nat.zero_le _,rfl,rfl,rfl,World.ownsRow_nil _ _ _ _,Below.refl _ _⟩
      case round=>
       obtain⟨k,G,J,hk,rfl,rfl,rfl,ha,N⟩:=hrel;have HN:=Za N
       by_cases hlt:k<l.length
       . obtain⟨Y,X,rfl,d0,d1,d2⟩:=(D.o.lq (RB.lq H.o N).2).at hlt;have HQ:=(RB.lq H.o N).1;have hG:=XJ T R l j s k;have hD:=DV K.o hlt j;have hE:=DV K.o hlt (j+1);have U:=Za (show lfU T R l j s (k+1)=if 0<lfU T R l j s k/\tk T R (A0 l k) j<tk T R (A0 l k) (j+1) then lfU T R l j s k-1 else lfU T R l j s k from rfl);have A:=Za (show dlI T R l j s k=if 0<lfU T R l j s k/\tk T R (A0 l k) j<tk T R (A0 l k) (j+1) then tk T R (A0 l k) j+1 else tk T R (A0 l k) j from rfl);have Hc:=Za (show dlU T R l j s (k+1)=dlU T R l j s k++[dlI T R l j s k] from rfl);have h1:=FH T R S C (A0 l k).1 (A0 l k).2.1 (A0 l k).2.2 j K.o.1 (K.o.2 k hlt);have h2:=FH T R S C (A0 l k).1 (A0 l k).2.1 (A0 l k).2.2 (j+1) K.o.1 (K.o.2 k hlt);rw[show tk T R ((A0 l k).1,(A0 l k).2.1,(A0 l k).2.2) j=tk T R (A0 l k) j from rfl] at h1;rw[show tk T R ((A0 l k).1,(A0 l k).2.1,(A0 l k).2.2) (j+1)=tk T R (A0 l k) (j+1) from rfl] at h2
         have j0:(0:Int)<=(k:Int):=by omega
         have j1:(k:Int)<(l.length:Int):=by omega
         have w1':IntKind.i64.wrap (j+1)=j+1:=Xj (by omega) (by omega);generalize lfU T R l j s k=x at *;generalize tk T R (A0 l k) j=t at *;generalize tk T R (A0 l k) (j+1)=t2 at *;generalize (A0 l k).1=i at *;generalize (A0 l k).2.1=b at *;generalize (A0 l k).2.2=o at *;obtain⟨q,HQE⟩:∃q,Hd ((dlU T R l j s k).map (Value.int .i64)=q):=⟨_,rfl⟩;rw[HQE.o] at ha;have M:(V0 wr w 0 T/\V0 wr w 1 R/\V0 wr w 2 S/\V0 wr w 3 C)/\(V2 wr Y (X+k*3) i/\V2 wr Y (X+k*3+1) b/\Kc wr Y (X+k*3+2) (.bool o))/\Bw w3 wr/\wr.ownsRow w3.heap.size 3 1 (.slice G k J) k q:=⟨HQ,⟨d0,d1,d2⟩,N,ha⟩;have Z:=Za M;clear N ha d0 d1 d2 HQ HN
         go_upto_region 10 with fail
         go_cut [11] (fun y u=>y=Vi t/\((V0 u w 0 T/\V0 u w 1 R/\V0 u w 2 S/\V0 u w 3 C)/\(V2 u Y (X+k*3) i/\V2 u Y (X+k*3+1) b/\Kc u Y (X+k*3+2) (.bool o))/\Bw w3 u/\u.ownsRow w3.heap.size 3 1 (.slice G k J) k q))
         case first=>
          go_region_held3 (fun u=>(V0 u w 0 T/\V0 u w 1 R/\V0 u w 2 S/\V0 u w 3 C)/\(V2 u Y (X+k*3) i/\V2 u Y (X+k*3+1) b/\Kc u Y (X+k*3+2) (.bool o))/\Bw w3 u/\u.ownsRow w3.heap.size 3 1 (.slice G k J) k q)
           (first
            |(with_reducible assumption)
            |(with_reducible apply L3;with_reducible assumption;with_reducible assumption)
            |(refine L3 ?_ Z.o;exact Vb))
           (first
            |(go_at_call 188;refine Sb (h1 _) fun w' hb=>?_))
          all_goals
           rename_i m
           go_wp2_with fail
           go_meet
           (case rel=>exact⟨rfl,m⟩)
         case rest=>
          obtain⟨rfl,m⟩:=hcut;rename World=>we;clear Z M;have M:=m;have Z:=Za m;clear m
          go_upto_region 11 with fail
          go_cut [74] (fun c u=>c=.bool (decide (0<x)&&decide (t<t2))/\((V0 u w 0 T/\V0 u w 1 R/\V0 u w 2 S/\V0 u w 3 C)/\(V2 u Y (X+k*3) i/\V2 u Y (X+k*3+1) b/\Kc u Y (X+k*3+2) (.bool o))/\Bw w3 u/\u.ownsRow w3.heap.size 3 1 (.slice G k J) k q))
          case first=>
           by_cases hp:0<x
           . skip
             go_region_held3 (fun u=>(V0 u w 0 T/\V0 u w 1 R/\V0 u w 2 S/\V0 u w 3 C)/\(V2 u Y (X+k*3) i/\V2 u Y (X+k*3+1) b/\Kc u Y (X+k*3+2) (.bool o))/\Bw w3 u/\u.ownsRow w3.heap.size 3 1 (.slice G k J) k q)
              (first
               |(with_reducible assumption)
               |(with_reducible apply L3;with_reducible assumption;with_reducible assumption)
               |(refine L3 ?_ Z.o;exact Vb))
              (first
               |(go_at_call 188;refine Sb (h2 _) fun w' hb=>?_))
             all_goals
              rename_i m
              go_wp2_with fail
              go_meet
              (case rel=>exact⟨by rw[decide_eq_true hp];simp,m⟩)
           . skip
             have hp':decide (0<x)=false:=by simpa using hp
             have Hg:=Za hp';go_quiet (fail);go_wp2
             go_meet
             (case rel=>exact⟨by rw[Hg.o];rfl,L3 (below_drewN (Below.refl _ _) _) Z.o⟩)
          case rest=>
           obtain⟨rfl,m⟩:=hcut;rename World=>wf;clear Z M;have Z:=Za m;clear m
           go_upto_if 74 with fail
           go_cut [8,11] (fun x' y' u=>x'=Vi (lfU T R l j s (k+1))/\y'=Vi (dlI T R l j s k)/\((V0 u w 0 T/\V0 u w 1 R/\V0 u w 2 S/\V0 u w 3 C)/\(V2 u Y (X+k*3) i/\V2 u Y (X+k*3+1) b/\Kc u Y (X+k*3+2) (.bool o))/\Bw w3 u/\u.ownsRow w3.heap.size 3 1 (.slice G k J) k q))
           case first=>
            by_cases hp:0<x/\t<t2
            . rw[if_pos hp] at U A;rw[decide_eq_true hp.1,decide_eq_true hp.2];go_wp2
              go_meet
              (case rel=>exact⟨by rw[U.o],by rw[A.o],Z.o⟩)
            . rw[if_neg hp] at U A;rw[show(decide (0<x)&&decide (t<t2))=false by simpa using hp];go_wp2
              go_meet
              (case rel=>exact⟨by rw[U.o],by rw[A.o],Z.o⟩)
           case rest=>
            obtain⟨rfl,rfl,m⟩:=hcut;rename World=>wd;clear Z U A;have HO:=Za m.2.2.2;have HN:=Za m.2.2.1;have LS:=m.2.2.1.size;clear m;obtain⟨y,HYE⟩:∃y,Hd (dlI T R l j s k=y):=⟨_,rfl⟩;rw[HYE.o] at Hc|-
            go_wp2_with (at_builtin;refine wpList_append_lies _ rfl _ _ 34 rfl w3.heap.size 3 i0 (Vi 0) 1 8 underlying34 hi ht hy hz rfl (by decide) _ _ _ rfl (HO.o.alloc _) ⟨wd.heap.size,0,none⟩ 1 1 [Vi y] rfl rfl (GO wd _ _) (fun x hx=>by simp at hx;subst hx;rfl) (by omega) (by unfold maxLen;omega) (by omega) (by simp;omega) _ rfl ?_;intro g cap w4 hg hj hI hF);go_roundw
            case rel=>
             refine⟨k+1,some (Ad g 0),cap,by omega,by go_num,rfl,rfl,?_,?_⟩
             . rw[Hc.o,List.map_append,HQE.o];exact hg
             . exact(HN.o.alloc LS _).grown hj (by simp;omega) (fun q hq=>(HO.o.lt q hq).1)
            case measure=>simp[intOf];omega
       . have e:k=l.length:=by omega
         have L:=Za (VA (by rw[Xk]) ha);subst e;clear ha N;go_wp2;go_ret;exact⟨⟨_,_,rfl,L.o⟩,Zc H.o.2 HN.o⟩
theorem Jjd:(prog.info? 220).map (·.size)=some 6:=by kernel_rfl
theorem YZ:(prog.info? 224).map (·.size)=some 7:=by kernel_rfl
theorem L4:∀(L:List Sv) (s:Sv),svL (L++[s])=svL L++[Vi s.1,Vi s.2.1,.bool s.2.2]
 |[],_=>rfl
 |x::r,s=>by simp only[List.cons_append,svL,L4 r s]
theorem L5(hn:n=L.length)(h:w.ownsRow B e 3 (Vf g 0 n cap) n (svL L)):VLs w (some (Ad g 0)) L:=by
 subst hn;refine .inr ⟨g,0,rfl,fun k hk=>?_⟩;have y:=Mv L hk (r:=0) (by omega);have j:=Mv L hk (r:=1) (by omega);have m:=Mv L hk (r:=2) (by omega);rw[Nat.zero_add];exact⟨(h.cellAt (k*3) (by omega)).trans y,(h.cellAt (k*3+1) (by omega)).trans j,(h.cellAt (k*3+2) (by omega)).trans m⟩
def moU(L:List Sv)(p:V9):Nat->List Sv
 |0=>[]
 |k+1=>moU L p k++[(p.getD k 0,(A0 L k).2)]
theorem Jcc(L:List Sv)(p:V9):∀k,(moU L p k).length=k
 |0=>rfl
 |k+1=>by rw[moU,List.length_append,Jcc L p k];rfl
theorem Jmz(L:List Sv)(p:V9):moU L p L.length=sik L p L.length:=by
 have key:∀k,moU L p k=(List.range k).map fun j=>(p.getD j 0,(A0 L j).2):=by
  intro k
  induction k with
  |zero=>rfl
  |succ k h=>rw[moU,h,List.range_succ,List.map_append];rfl
 rw[key]
 unfold sik
 apply List.map_congr_left;intro j y;rw[if_pos (by simpa using y)]
section
variable {K : Nat} {wz : World} {C : CR} {S : FS} {l : List Rd} {sv : Nat -> List Sv} {i : Nat}
theorem AP.gok(h:AP K wz C S l sv i):GOK (C.a i 0) (C.a i 1) (C.a i 2) (puI C i) (moI C i) (raI C i)/\-moI C i<=pvI C i (sv i)/\pvI C i (sv i)<=moI C i:=by
 have g:=h.gm
 unfold gmE at g
 split at g
 . rename_i h0
   split at g
   . rename_i h1;exact⟨OD h0,Zw h1⟩
   . cases g
 . rename_i h0;exact absurd g h0
theorem AP.refBounds(h:AP K wz C S l sv i)(hn:A1 S.n 0 1=true)(x:Int)(w:V6):
 Va 137 #[.agg (Qbo C i),Vi x,Vi (pvI C i (sv i))] w (Rt w (.agg #[Vi (bdL C i x S.n (pvI C i (sv i))),Vi (bdH C i x S.n (pvI C i (sv i)))])):=by
 refine(ME _ _ _ _ _ _ x _ h.gok.1 h.gok.2.1 h.gok.2.2 w).mono ?_;rintro e w' ⟨⟨a,b,rfl,ha,y⟩,hw⟩;refine⟨?_,hw⟩
 unfold bdL bdH
 rw[hn,if_pos rfl,if_pos rfl,FK ha,FK y]
theorem AP.bdle(h:AP K wz C S l sv i)(x:Int):bdL C i x S.n (pvI C i (sv i))<=bdH C i x S.n (pvI C i (sv i)):=by
 have y:=h.ra
 cases hn:A1 S.n 0 1
 . unfold bdL bdH
   rw[hn];simp only[Bool.false_eq_true,if_false]
   omega
 . obtain⟨e,w',h1⟩:∃a b,BB (raI C i) (puI C i) (-Yu (moI C i) (raI C i) (pvI C i (sv i))) (-Yi (moI C i) (raI C i) (pvI C i (sv i))) (Ze x (-2000000) 2000000-C.a i 2-C.a i 0) a/\BB (raI C i) (puI C i) (Yi (moI C i) (raI C i) (pvI C i (sv i))) (Yu (moI C i) (raI C i) (pvI C i (sv i))) (C.a i 1-C.a i 2-Ze x (-2000000) 2000000) b:=by
    have c:=OE y.1 h.mo.1 h.gok.2.1 h.gok.2.2;exact⟨_,_,PB (R:=raI C i) (p:=puI C i) (-Yi (moI C i) (raI C i) (pvI C i (sv i))- -Yu (moI C i) (raI C i) (pvI C i (sv i))).toNat (by omega) (fun s h3 h4=>by omega),PB (R:=raI C i) (p:=puI C i) (Yu (moI C i) (raI C i) (pvI C i (sv i))-Yi (moI C i) (raI C i) (pvI C i (sv i))).toNat (by omega) (fun s h3 h4=>by omega)⟩
   unfold bdL bdH
   rw[hn,if_pos rfl,if_pos rfl,FK h1.1,FK h1.2];have c:=OE y.1 h.mo.1 h.gok.2.1 h.gok.2.2;exact Jf3 h.gok.1 c.2.1 c.2.2.1 h1.1 h1.2
theorem AP.refSpread(h:AP K wz C S l sv i)(s:Int)(p:V8)(y:Nat)(w:V6)(j:VLs w p (sv i)):
 Va 138 #[.agg (Qbu C i),.slice p (sv i).length y,Vi s] w fun e w'=>(∃x cap,e=.returned (.slice x (sv i).length cap)/\ILs w' x (plI (C.a i 5) (C.a i 6) (sv i) s))/\Bw w w':=
 MD (C.a i 5) (C.a i 6) (C.a i 7) (C.a i 10) s _ (sv i) p y h.ok h.n4 (Jbe (by have:=h.h5;omega) (Xb (v:=s) (Ni _ _ (sv i) (show -C.a i 5<=C.a i 5 by have:=h.h5;omega))).1) w j
end
def MdS(w:V6)(h y j m g:Nat)(e h1 H:List Value)(L:List Sv)(u:V6):Prop:=u.rangeAt h 0 e/\u.rangeAt y 0 h1/\u.rangeAt j 0 H/\VLs u (some (Ad g 0)) L/\(∃cs:List Value,cs.length=3/\Blk 107 u m cs)/\Bw w u
theorem MdS.lq(y:Bw u u')(h:MdS w QR QH QK QZ g rc h1 ak L u):MdS w QR QH QK QZ g rc h1 ak L u':=
 ⟨Zf h.1 y,Zf h.2.1 y,Zf h.2.2.1 y,h.2.2.2.1.lq y,h.2.2.2.2.1.elim fun j k=>⟨j,k.1,k.2.lq y⟩,Zc h.2.2.2.2.2 y⟩
theorem U4{V:Nat}(j:g≠V)(y:List Value)(o:Nat)(h:VLs u (some (Ad g 0)) L):VLs (u.setCells V o y) (some (Ad g 0)) L:=by
 rcases h with h|⟨b,off,e,hc⟩
 . exact .inl h
 . simp only[Option.some.injEq,Addr.mk.injEq] at e;obtain⟨rfl,rfl,_⟩:=e;exact .inr ⟨g,0,rfl,fun k hk=>⟨U0 j y o u (hc k hk).1,U0 j y o u (hc k hk).2.1,U0 j y o u (hc k hk).2.2⟩⟩
theorem MdS.put(j:QR≠QZ/\QH≠QZ/\QK≠QZ/\g≠QZ/\w.heap.size<=QZ)(y:List Value)(h:MdS w QR QH QK QZ g rc h1 ak L u):MdS w QR QH QK QZ g rc h1 ak L (u.setCells QZ 0 y):=
 ⟨World.rangeAt_setCells_apart h.1 QZ 0 y (.inl j.1),World.rangeAt_setCells_apart h.2.1 QZ 0 y (.inl j.2.1),World.rangeAt_setCells_apart h.2.2.1 QZ 0 y (.inl j.2.2.1),U4 j.2.2.2.1 y 0 h.2.2.2.1,h.2.2.2.2.1.elim fun m k=>⟨_,by rw[E7];exact k.1,Blk.setCells y 0 u m k.2⟩,Zo y 0 u h.2.2.2.2.2 j.2.2.2.2⟩
theorem EL{P j base:Nat}{x:Value}{size:Nat}{v:Value}{xs:List Value}(h:u.ownsRow base e size v n xs)(y:some P≠v.ownBlock):(u.setCell (Ad P j) x).ownsRow base e size v n xs:=by
 refine⟨h.1,?_⟩
 rcases h.2 with h|⟨g,cap,ha,h1,h2,h3,h4⟩
 . exact .inl h
 . subst h1;exact .inr ⟨g,cap,ha,rfl,h2,(heap_setCell_other u ⟨P,j,none⟩ g x (fun(e:g=P)=>y (by rw[e];rfl))).trans h3,h4⟩
theorem Jes(tmps:Array Value)(U:V6)(Y:Nat)(h:List Value)(x:Value)(h6:tmps.getD 13 undef=Ve Y 0)(h7:tmps.getD 12 undef=x)(y:U.rangeAt Y 0 h)(hn:h.length=3):
 (results Tryz.f83 tmps).run prog U=.ok (.tuple #[x,.agg h.toArray]) U:=by
 have h3:tmps[13]?.getD undef=Ve Y 0:=by simpa using h6
 have h4:tmps[12]?.getD undef=x:=by simpa using h7
 simp[results,results83,h3,h4,asAddr,run_loadVar_mid U Y 0 107 h _ y underlying107 rfl (by rw[Xq,hn])]
theorem VB{K:Nat}{wz:V6}{S:FS}{C:CR}{l:List Rd}{sv:Nat->List Sv}(Z Y:Int)(i:Nat)(hi:i<2)(Q:AP K wz C S l sv i)(ht:∀u,Bw w u->Lst u (C.p i) (C.al i)/\Lst u (C.q i) (C.zl i))(hX:A1 S.n 0 3=true)(hY:S.sn i=(sv i).length)(hv:VLs w (S.sp i) (sv i)):
 Va 83 #[.agg (Qab C i),.agg (stL S).toArray,Vi i,Vi Z,Vi Y,Vi (smp l (32+(i:Int)) 3).2] w fun e w'=>(∃g c,e=.returned (.tuple #[Vf g 0 (sv i).length c,.agg #[Vi (hoM C i (S.hd i) (skI l i) Z Y S.n (sv i)).1,Vi (hoM C i (S.hd i) (skI l i) Z Y S.n (sv i)).2.1,Vi (hoM C i (S.hd i) (skI l i) Z Y S.n (sv i)).2.2]])/\w.heap.size<=g/\VLs w' (some (Ad g 0)) (svM C i (S.hd i) (skI l i) Z Y S.n (sv i)))/\Bw w w':=by
 obtain⟨i0',jl,jm,jn,jo⟩:=info_parts Jam;have hu:=Zel (C.a i 0) (C.a i 1) (C.a i 2) (C.a i 3) (C.a i 4) (C.a i 5) (C.a i 6) (C.a i 7) (C.a i 8) (C.a i 9) (C.a i 10) (C.a i 11) (C.a i 14) (C.p i) (C.q i) (C.al i).length (C.zl i).length (C.cn i) (C.cm i) Q.h4 Q.h5;have hw:=Zeb (C.a i 0) (C.a i 1) (C.a i 2) (C.a i 3) (C.a i 4) (C.a i 5) (C.a i 6) (C.a i 7) (C.a i 8) (C.a i 9) (C.a i 10) (C.a i 11) (C.a i 14) (C.p i) (C.q i) (C.al i).length (C.zl i).length (C.cn i) (C.cm i) Q.h4 Q.h5 Q.h3 Q.h7 Q.h6;have hZ:=M8 (C.a i 0) (C.a i 1) (C.a i 2) (C.a i 3) (C.a i 4) (C.a i 5) (C.a i 6) (C.a i 7) (C.a i 8) (C.a i 9) (C.a i 10) (C.a i 11) (C.a i 14) (C.p i) (C.q i) (C.al i).length (C.zl i).length (C.cn i) (C.cm i);have jp:∀u,Va 129 #[.agg (Qab C i)] u (Rt u (.agg (Qav C i))):=hu;have jq:∀u,Va 127 #[.agg (Qab C i)] u (Rt u (.agg (Qbo C i))):=hw;clear hu hw;have jz:=Q.mo;have jA:=Q.ra;have jB:=Q.gok.2;have hz:=Yx (smU (sv i) (sv i).length) (-moI C i) (moI C i);have h8:∀u,Va 72 #[Vi (smU (sv i) (sv i).length),Vi (-moI C i),Vi (moI C i)] u (Re u (Vi (pvI C i (sv i)))):=hz;have hC:=Yx (smp l (32+(i:Int)) 3).2 (-100) 100;have h9:∀u,Va 72 #[Vi (smp l (32+(i:Int)) 3).2,Vi (-100),Vi 100] u (Re u (Vi (skI l i))):=hC
 have hD:=Yx (wtM C i (S.hd i) (skI l i) Z Y S.n (sv i)) (bdL C i Z S.n (pvI C i (sv i))) (bdH C i Z S.n (pvI C i (sv i))) (h:=Q.bdle Z);have ja:∀u,Va 72 #[Vi (wtM C i (S.hd i) (skI l i) Z Y S.n (sv i)),Vi (bdL C i Z S.n (pvI C i (sv i))),Vi (bdH C i Z S.n (pvI C i (sv i)))] u (Re u (Vi (goM C i (S.hd i) (skI l i) Z Y S.n (sv i)))):=hD;clear hz hC hD;have hG:=fun u (h:VLs u (S.sp i) (sv i))=>NJ (sv i) (S.sp i) (S.sc i) (by have:=Q.n4;omega) Q.is u h;have hH:∀u,Bw w u->Va 136 #[.agg (Qav C i),.agg #[Vi (S.hd i).1,Vi (S.hd i).2.1,Vi (S.hd i).2.2],.agg #[Vi (skI l i),Vi Z,Vi Y,Vi S.n,Vi (pvI C i (sv i))]] u (Rt u (.tuple #[Vi (wtM C i (S.hd i) (skI l i) Z Y S.n (sv i)),.agg #[Vi (haM C i (S.hd i) (skI l i) Z S.n),Vi (hdM C i (S.hd i) (skI l i) Z Y S.n (sv i)),Vi S.n]])):=
  fun u h=>LX (C.a i 0) (C.a i 1) (C.a i 11) (C.a i 14) (moI C i) (C.p i) (C.q i) (C.cn i) (C.cm i) (C.al i) (C.zl i) (S.hd i).1 (S.hd i).2.1 (S.hd i).2.2 (skI l i) Z Y S.n (pvI C i (sv i)) Q.ho u (ht u h).1 (ht u h).2
 have hM:=fun h=>Q.refBounds h Z;have hI:=fun u (h:VLs u (S.sp i) (sv i))=>Q.refSpread (goM C i (S.hd i) (skI l i) Z Y S.n (sv i)) (S.sp i) (S.sc i) u h;have jb:=TQ Z Y Q.ho;obtain⟨e1,e2,e3⟩:=Wz jb;obtain⟨⟨a0,a1⟩,⟨d0,d1⟩,_,_⟩:=Nl e2;obtain⟨⟨l0,l1⟩,⟨u0,T⟩,_,_,m0',m1'⟩:=Wk (Wl e1).1;have hO:=TZ (C.a i 0) (C.a i 1) (C.a i 11) (C.a i 14) (moI C i) (C.p i) (C.q i) (C.al i).length (C.zl i).length (C.cn i) (C.cm i) (haM C i (S.hd i) (skI l i) Z S.n) (hdM C i (S.hd i) (skI l i) Z Y S.n (sv i)) S.n (skI l i) Z Y S.n (pvI C i (sv i)) (wtM C i (S.hd i) (skI l i) Z Y S.n (sv i)) (smU (svM C i (S.hd i) (skI l i) Z Y S.n (sv i)) (sv i).length) (Int.le_trans l0 a0) (Int.le_trans a1 T) m0' m1' d0 d1;clear jb e1 e2 e3 a0 a1 d0 d1 l0 l1 u0 T m0' m1';have hN:(svM C i (S.hd i) (skI l i) Z Y S.n (sv i)).length=(sv i).length:=II _ _ _
 have hn:=fun g c u (h:VLs u (some (Ad g 0)) (svM C i (S.hd i) (skI l i) Z Y S.n (sv i)))=>NJ (svM C i (S.hd i) (skI l i) Z Y S.n (sv i)) (some (Ad g 0)) c (by rw[hN];have:=Q.n4;omega) (fun k hk=>by
  rw[hN] at hk
  unfold svM
  rw[IL _ _ hk]
  exact Jhw Q.ok _ hk) u h
 rw[hN] at hn;have hs:(plI (C.a i 5) (C.a i 6) (sv i) (goM C i (S.hd i) (skI l i) Z Y S.n (sv i))).length=(sv i).length:=Jbf _ _ _ _;have HF:Hd (svM C i (S.hd i) (skI l i) Z Y S.n (sv i)=moU (sv i) (plI (C.a i 5) (C.a i 6) (sv i) (goM C i (S.hd i) (skI l i) Z Y S.n (sv i))) (sv i).length):=Za (Jmz _ _).symm;have HN:Hd (hoM C i (S.hd i) (skI l i) Z Y S.n (sv i)=(haM C i (S.hd i) (skI l i) Z S.n,toD (C.a i 14) (moI C i) (haM C i (S.hd i) (skI l i) Z S.n) (hdM C i (S.hd i) (skI l i) Z Y S.n (sv i)) Z S.n (wtM C i (S.hd i) (skI l i) Z Y S.n (sv i)) (smU (svM C i (S.hd i) (skI l i) Z Y S.n (sv i)) (sv i).length),S.n)):=Za rfl;have hR:=Q.n1;have jC:=Q.n4;rw[HN.o,HF.o];rw[HF.o] at hO hn;clear Q ht HN HF hN;have D:=Za ((Blk.new (w.alloc (.cells (Qab C i) 38)) 110 (stL S)).lq (Zb _ (.cells #[Vi 0,Vi 0,Vi 0] 107)));rw[World.size_alloc] at D;have HA:Hd (Blk 110 (((w.alloc (.cells (Qab C i) 38)).alloc (.cells (stL S).toArray 110)).alloc (.cells #[Vi 0,Vi 0,Vi 0] 107)) (w.heap.size+1) (stL S)):=D;clear D
 have I:Hd (Blk 38 (((w.alloc (.cells (Qab C i) 38)).alloc (.cells (stL S).toArray 110)).alloc (.cells #[Vi 0,Vi 0,Vi 0] 107)) w.heap.size (Qae C i)):=Za (((Blk.new w 38 (Qae C i)).lq (Zb _ (.cells (stL S).toArray 110))).lq (Zb _ (.cells #[Vi 0,Vi 0,Vi 0] 107)));have G:Hd (Blk 107 (((w.alloc (.cells (Qab C i) 38)).alloc (.cells (stL S).toArray 110)).alloc (.cells #[Vi 0,Vi 0,Vi 0] 107)) (w.heap.size+1+1) [Vi 0,Vi 0,Vi 0]):=Za (by have:=Blk.new ((w.alloc (.cells (Qab C i) 38)).alloc (.cells (stL S).toArray 110)) 107 [Vi 0,Vi 0,Vi 0];rw[World.size_alloc,World.size_alloc] at this;exact this)
 have HO:Hd (Bw w (((w.alloc (.cells (Qab C i) 38)).alloc (.cells (stL S).toArray 110)).alloc (.cells #[Vi 0,Vi 0,Vi 0] 107))):=Za (Zc (Zc (Zb w (.cells (Qab C i) 38)) (Zb _ (.cells (stL S).toArray 110))) (Zb _ (.cells #[Vi 0,Vi 0,Vi 0] 107)));obtain⟨h0,h1,h2,HHE⟩:∃h0 h1 h2,Hd ((S.hd i).1=h0/\(S.hd i).2.1=h1/\(S.hd i).2.2=h2):=⟨_,_,_,Za ⟨rfl,rfl,rfl⟩⟩;simp only[HHE.o.1,HHE.o.2.1,HHE.o.2.2] at hH;obtain⟨p,HPE⟩:∃p,Hd (plI (C.a i 5) (C.a i 6) (sv i) (goM C i (S.hd i) (skI l i) Z Y S.n (sv i))=p):=⟨_,Za rfl⟩;rw[HPE.o] at hn hs hO;rw[HPE.o];simp only[HPE.o] at hI;clear HPE;have wr0:=Wr (-moI C i);have wr1:=Wr (pvI C i (sv i)-raI C i);have wr2:=Wr (pvI C i (sv i)+raI C i);have Hp:Hd (A1 S.n 0 1=false->bdL C i Z S.n (pvI C i (sv i))=pvI C i (sv i)-raI C i/\bdH C i Z S.n (pvI C i (sv i))=pvI C i (sv i)+raI C i):=Za (fun h=>by unfold bdL bdH;rw[h];exact⟨rfl,rfl⟩);generalize toD (C.a i 14) (moI C i) (haM C i (S.hd i) (skI l i) Z S.n) (hdM C i (S.hd i) (skI l i) Z Y S.n (sv i)) Z S.n (wtM C i (S.hd i) (skI l i) Z Y S.n (sv i)) (smU (moU (sv i) p (sv i).length) (sv i).length)=td at *;generalize smU (moU (sv i) p (sv i).length) (sv i).length=gt at *;generalize smU (sv i) (sv i).length=su at *;generalize goM C i (S.hd i) (skI l i) Z Y S.n (sv i)=go at *;generalize wtM C i (S.hd i) (skI l i) Z Y S.n (sv i)=wt at *;generalize hdM C i (S.hd i) (skI l i) Z Y S.n (sv i)=hd at *;generalize haM C i (S.hd i) (skI l i) Z S.n=ha at *;generalize bdL C i Z S.n (pvI C i (sv i))=lo at *;generalize bdH C i Z S.n (pvI C i (sv i))=hi' at*
 generalize hm':(sv i).length=m at *;generalize skI l i=sk at *;generalize pvI C i (sv i)=pv at *;(try dsimp only[Qav,Qbo] at *);generalize moI C i=mo at *;generalize raI C i=ra at *;generalize puI C i=pu at *;have U:=(HA.o.cell (show(stL S)[29]?=some (Vi S.n) from rfl)).1;have O:=(HA.o.cell (Uw S hi)).1;have D:=Za (HA.o.sub (23+i*3) 3);rw[Jao S hi] at D
 unfold hdL at D
 rw[HHE.o.1,HHE.o.2.1,HHE.o.2.2] at D;rw[hY] at O;have HV:=Za hv;have jD:=Zw hX;clear HHE hY hv hX HA;generalize (smp l (32+(i:Int)) 3).2=stk at *;generalize S.n=n at*
 have i0:(0:Int)<=(i:Int):=by omega
 have i1:(i:Int)<2:=by omega
 go_enter func83,ntmps83
 go_upto_region 1 with fail;generalize (((w.alloc (.cells (Qab C i) 38)).alloc (.cells (stL S).toArray 110)).alloc (.cells #[Vi 0,Vi 0,Vi 0] 107))=v0 at *;have hQ:w.heap.size<w.heap.size+1+1/\w.heap.size+1<w.heap.size+1+1:=⟨by omega,by omega⟩;generalize w.heap.size+1+1=QZ at *;generalize w.heap.size+1=QS at *;have Hm:=Za I.o.range;have jr:=G.o.lt;refine Cs [25,26,27,28,14,15] ?_;refine Cl (x:=.tmp 6) 0 25 [] (fun y w _ u P=>⟨Zf Hm.o P,rfl⟩) underlying38 Zq ?_;refine Cc 1 26 [0] (fun y w h _=>jq _) ?_;refine Cl (x:=.tmp 6) 2 27 [] (fun y w _ u P=>⟨Zf Hm.o P,rfl⟩) underlying38 Zq ?_;refine Cc 3 28 [2] (fun y w h _=>jp _) ?_;refine Ca 4 14 ?_;refine Ca 5 15 ?_;refine Cn 2 8 [6,7] (fun y T H F=>?_);obtain⟨XE,e,X⟩:=F.1;have Hs:Hd (NB _ _ _ XE [Vi 0,Vi 0,Vi 0,Vi 0,Vi 0,.slice none 0 0,.slice none 0 0]):=Za X;(try simp only[e]);clear e X;obtain⟨R,e,X⟩:=F.2.1;have M:Hd (NB _ _ _ R [Vi 0,Vi 0,Vi 0,Vi 0,Vi 0,Vi 0]):=Za X;(try simp only[e]);clear e X;have N:=Za H;clear H F;refine Ra 6 (fun K hK=>?_);rw[if_pos (by rfl)];refine Z2 220 (.tmp 14) (.tmp 26) rfl R 0 #[Vi (C.a i 0),Vi (C.a i 1),Vi (C.a i 2),Vi pu,Vi mo,Vi ra] rfl rfl (M.o.1.there (Nat.le_of_ble_eq_true rfl)) Jjd (Zm _ rfl) rfl ?_;have J:=Za (Zo (Qbl C i pu mo ra) 0 T N.o (NB.le M.o));have Hj:Hd (NB 220 v0.heap.size (T.setCells R 0 (Qbl C i pu mo ra)) R (Qbl C i pu mo ra)):=Za ⟨Blk.setCells (Qbl C i pu mo ra) 0 T [Vi 0,Vi 0,Vi 0,Vi 0,Vi 0,Vi 0] M.o.1,NB.le M.o⟩;have Hn:=Za (NB.farCells (NB.ne Hs.o M.o (by decide)) (Qbl C i pu mo ra) 0 Hs.o);generalize hU:World.setCells _ R 0 _=u2 at *;clear hU;refine hK.out _ _ J.o (fun _=>?_);clear hK K;clear N Hs M
 refine Ra 7 (fun K hK=>?_);rw[if_pos (by rfl)];refine Z2 224 (.tmp 15) (.tmp 28) rfl XE 0 #[Vi (C.a i 0),Vi (C.a i 1),Vi (C.a i 11),Vi (C.a i 14),Vi mo,.slice (C.p i) (C.al i).length (C.cn i),.slice (C.q i) (C.zl i).length (C.cm i)] rfl rfl (Hn.o.1.there (Nat.le_of_ble_eq_true rfl)) YZ (Zm _ rfl) rfl ?_;have Hu:=Za (Zo (Qaq C i mo) 0 u2 J.o (NB.le Hn.o));have Hv:Hd (NB 224 v0.heap.size (u2.setCells XE 0 (Qaq C i mo)) XE (Qaq C i mo)):=Za ⟨Blk.setCells (Qaq C i mo) 0 u2 [Vi 0,Vi 0,Vi 0,Vi 0,Vi 0,.slice none 0 0,.slice none 0 0] Hn.o.1,NB.le Hn.o⟩;have Hw:=Za (NB.farCells (NB.ne Hj.o Hn.o (by decide)) (Qaq C i mo) 0 Hj.o);generalize hU:World.setCells _ XE 0 _=u3 at *;clear hU;refine hK.out _ _ Hu.o (fun _=>?_);clear hK K;clear J Hn Hj;refine Dn ?_;go_simp;have X:=Hw.o;clear Hw;have hE:=Hv.o;clear Hv;have H:=Hu.o;clear Hu;generalize u3=v1 at H X hE|-;refine Ek ?_;have A:=Za X.1;have E:=Za hE.1;have jE:=NB.le X;have jF:=NB.le hE;clear X hE Hm;generalize R=QG at *;generalize XE=QR at *;have U:=cell_later H U;have O:=cell_later H O;have D:=Za (Zf D.o H);have I:=Za (I.o.lq H);have G:=Za (G.o.lq H);have HG:=Za (Zc HO.o H);clear H HO
 go_upto_region 2 with fail;have hp:=O;have hS:=(A.o.cell (j:=4) rfl).1;have jc:=fun u (h:Bw v1 u)=>hG u (HV.o.lq (Zc HG.o h));refine Cs [29,30,31,32,33,34,35,36,37,38,39,16] ?_;refine Cp 0 29 [] ?_;refine Cp 1 30 [] ?_;refine Cp 2 31 [1,0] ?_;refine Cq (V5 hp) 3 32 [2] ?_;refine Cc 4 33 [3] (fun y w h _=>Yc (jc _ h)) ?_;refine Cp 5 34 [] ?_;refine Cq (V5 hS) 6 35 [5] ?_;refine Cp 7 36 [6] ?_;refine Cp 8 37 [] ?_;refine Cq (V5 hS) 9 38 [8] ?_;refine Cc 10 39 [4,7,9] (fun y w h _=>Yc (h8 _)) ?_;refine Cp 11 16 [10] ?_;refine Ce (fun y T H F=>?_);have N:=Za H;clear H F;go_simp;have H:=N.o;clear N;generalize T=v2 at H|-;refine Ek ?_;clear jc hS hp;have U:=cell_later H U;have O:=cell_later H O;have D:=Za (Zf D.o H);have I:=Za (I.o.lq H);have G:=Za (G.o.lq H);have A:=Za (A.o.lq H);have E:=Za (E.o.lq H);have HP:=Za (Zc HG.o H);clear H HG hG h8
 go_upto_region 3 with fail;have ht:=U;refine Cs [40,41,42,43,44,45,46,47,17] ?_;refine Cp 0 40 [] ?_;refine Cc 1 41 [0] (fun y w h _=>Yc (h9 _)) ?_;refine Cp 2 42 [] ?_;refine Cp 3 43 [] ?_;refine Cp 4 44 [] ?_;refine Cq (V5 ht) 5 45 [4] ?_;refine Cp 6 46 [] ?_;refine Cp 7 47 [1,2,3,5,6] ?_;refine Ca 8 17 ?_;refine Cn 1 10 [9] (fun y T H F=>?_);obtain⟨R,e,X⟩:=F.1;have M:Hd (NB _ _ _ R [Vi 0,Vi 0,Vi 0,Vi 0,Vi 0]):=Za X;(try simp only[e]);clear e X;have N:=Za H;clear H F;refine Ra 9 (fun K hK=>?_);rw[if_pos (by rfl)];refine Z2 238 (.tmp 17) (.tmp 47) rfl R 0 #[Vi sk,Vi Z,Vi Y,Vi n,Vi pv] rfl rfl (M.o.1.there (Nat.le_of_ble_eq_true rfl)) C6 (Zm _ rfl) rfl ?_;have J:=Za (Zo [Vi sk,Vi Z,Vi Y,Vi n,Vi pv] 0 T N.o (NB.le M.o));have Hj:Hd (NB 238 v2.heap.size (T.setCells R 0 [Vi sk,Vi Z,Vi Y,Vi n,Vi pv]) R [Vi sk,Vi Z,Vi Y,Vi n,Vi pv]):=Za ⟨Blk.setCells [Vi sk,Vi Z,Vi Y,Vi n,Vi pv] 0 T [Vi 0,Vi 0,Vi 0,Vi 0,Vi 0] M.o.1,NB.le M.o⟩;generalize hU:World.setCells _ R 0 _=u2 at *;clear hU;refine hK.out _ _ J.o (fun _=>?_);clear hK K;clear N M;refine Dn ?_;go_simp;have X:=Hj.o;clear Hj;have H:=J.o;clear J;generalize u2=v3 at H X|-;refine Ek ?_;clear ht;have B:=Za X.1;have jG:=NB.le X;clear X;generalize R=QK at *;have U:=cell_later H U;have O:=cell_later H O;have D:=Za (Zf D.o H);have I:=Za (I.o.lq H);have H0:=G.o.lt;have G:=Za (G.o.lq H);have A:=Za (A.o.lq H);have E:=Za (E.o.lq H);have HH:=Za (Zc HP.o H);clear H HP h9
 go_upto_region 4 with fail;have HQ:=Za E.o.range;have Hx:=Za B.o.range;have hH:=fun u (h:Bw v3 u)=>hH u (Zc HH.o h);refine Cs [49,50,51,52,53,54,55,48,56,57,19,18] ?_;refine Cl (x:=.tmp 15) 0 49 [] (fun y w _ u P=>⟨Zf HQ.o P,rfl⟩) underlying224 YZ ?_;refine Cp 1 50 [] ?_;refine Cp 2 51 [] ?_;refine Cp 3 52 [2,1] ?_;refine Cl (x:=.tmp 52) 4 53 [3] (fun y w hF u P=>⟨Zf D.o P,hF.1⟩) underlying107 Xq ?_;refine Cl (x:=.tmp 17) 5 54 [] (fun y w _ u P=>⟨Zf Hx.o P,rfl⟩) underlying238 C6 ?_;refine Cc 6 55 [0,4,5] (fun y w h _=>hH _ h) ?_;refine Cp 7 48 [6] ?_;refine Cp 8 56 [7] ?_;refine Cp 9 57 [7] ?_;refine Ca 10 19 ?_;refine Cp 11 18 [8] ?_;refine Cn 1 13 [12] (fun y T H F=>?_);obtain⟨R,e,X⟩:=F.2.1;have M:Hd (NB _ _ _ R [Vi 0,Vi 0,Vi 0]):=Za X;(try simp only[e]);clear e X;have N:=Za H;clear H F;refine Ra 12 (fun K hK=>?_);rw[if_pos (by rfl)];refine Z2 107 (.tmp 19) (.tmp 57) rfl R 0 #[Vi ha,Vi hd,Vi n] rfl rfl (M.o.1.there (Nat.le_of_ble_eq_true rfl)) Xq (Zm _ rfl) rfl ?_;have J:=Za (Zo [Vi ha,Vi hd,Vi n] 0 T N.o (NB.le M.o));have Hj:Hd (NB 107 v3.heap.size (T.setCells R 0 [Vi ha,Vi hd,Vi n]) R [Vi ha,Vi hd,Vi n]):=Za ⟨Blk.setCells [Vi ha,Vi hd,Vi n] 0 T [Vi 0,Vi 0,Vi 0] M.o.1,NB.le M.o⟩;generalize hU:World.setCells _ R 0 _=u2 at *;clear hU;refine hK.out _ _ J.o (fun _=>?_);clear hK K;clear N M;refine Dn ?_;go_simp;have X:=Hj.o;clear Hj;have H:=J.o;clear J;generalize u2=v4 at H X|-;refine Ek ?_;clear HQ Hx hH;have Hq:=Za X.1;have jH:=NB.le X;clear X;generalize R=QH at *;have H1:=G.o.lt;have U:=cell_later H U;have O:=cell_later H O;have I:=Za (I.o.lq H);have G:=Za (G.o.lq H);have A:=Za (A.o.lq H);have E:=Za (E.o.lq H);have B:=Za (B.o.lq H);have HR:=Za (Zc HH.o H);clear H HH D;have H2:=A;have js:=(A.o.cell (j:=5) rfl).1
 go_upto_region 6 with fail;clear js;have HB:Hd (Blk 140 (v4.alloc (.cells #[Vi (pv-ra),Vi (pv+ra)] 140)) v4.heap.size [Vi (pv-ra),Vi (pv+ra)]):=Za (Blk.new v4 _ _);have Hy:=Za (Zb v4 (.cells #[Vi (pv-ra),Vi (pv+ra)] 140));have jt:=G.o.lt;generalize v4.alloc (.cells #[Vi (pv-ra),Vi (pv+ra)] 140)=v5 at *;generalize ju:v4.heap.size=QP at HB|-;have hT:=cell_later Hy.o U
 go_upto_if 69 with fail
 go_cut [20] (fun q u=>q=Ve QP 0/\Bw v4 u/\Blk 140 u QP [Vi lo,Vi hi'])
 case first=>
  by_cases hR:n<=1
  . have hM:=hM (Xe (by omega));have H3:=Za (A.o.lq Hy.o).range
    have jv:decide (n<=1)=true:=by simpa using hR
    go_wp2_with (first
     |(refine Lm 220 (.tmp 14) rfl QG 0 (Qbl C i pu mo ra) H3.o underlying220 Jjd ?_)
     |(go_at_call 137;refine Sb (hM _) fun v6 L=>?_;have HS:=Za (HB.o.lq L);have H4:=Za (Zc Hy.o L);have H5:=Za (HS.o.there (o:=0) (n:=2) (by simp));clear L)
     |(refine Sq 140 _ _ rfl ?_;refine wpList_store_mid rfl 140 (.tmp 20) (.tmp 73) rfl QP 0 #[Vi lo,Vi hi'] rfl rfl H5.o D1 (Zm _ rfl) ?_))
    go_meet
    case rel=>exact⟨rfl,Zo _ 0 v6 H4.o (Nat.le_of_eq ju),Blk.setCells [Vi lo,Vi hi'] 0 v6 _ HS.o⟩
  . have jv:decide (n<=1)=false:=by simpa using hR
    have jd:=Hp.o (by simp only[A1,Bool.and_eq_false_iff,decide_eq_false_iff_not];omega);go_wp2_with fail
    go_meet
    case rel=>exact⟨rfl,Hy.o,by rw[jd.1,jd.2];exact HB.o⟩
 case rest=>
  obtain⟨rfl,H,hP⟩:=hcut;rename World=>v7;have je:=(hP.cell (j:=0) rfl).1;have jf:=(hP.cell (j:=1) rfl).1;have hp:=cell_later H O;have I:=Za (I.o.lq H);have G:=Za (G.o.lq H);have E:=Za (E.o.lq H);have B:=Za (B.o.lq H);have Hq:=Za (Hq.o.lq H);have HI:=Za (Zc HR.o H);clear H hP HB Hy HR U O hT hM H2 A Hp
  go_upto_region 9 with fail;have Hm:=Za I.o.range;have jg:=fun u (h:Bw v7 u)=>hI u (HV.o.lq (Zc HI.o h));refine Cs [74,75,76,77,78,79,80,81,82,83,84,85,86,22] ?_;refine Cl (x:=.tmp 6) 0 74 [] (fun y w _ u P=>⟨Zf Hm.o P,rfl⟩) underlying38 Zq ?_;refine Cc 1 75 [0] (fun y w h _=>hZ _) ?_;refine Cp 2 76 [] ?_;refine Cp 3 77 [] ?_;refine Cp 4 78 [3,2] ?_;refine Cq (V5 hp) 5 79 [4] ?_;refine Cp 6 80 [] ?_;refine Cp 7 81 [] ?_;refine Cq (V5 je) 8 82 [7] ?_;refine Cp 9 83 [] ?_;refine Cq (V5 jf) 10 84 [9] ?_;refine Cc 11 85 [6,8,10] (fun y w h _=>Yc (ja _)) ?_;refine Cd 12 86 [1,5,11] (fun v u=>∃gp cp,v=.slice gp m cp/\ILs u gp p) (fun y w h _=>(jg _ h).mono (by rintro e w' ⟨⟨gp,cp,rfl,hs⟩,L⟩;exact⟨_,rfl,⟨gp,cp,rfl,hs⟩,L⟩)) (fun _ _ _ ⟨a,b,h1,h3⟩ L=>⟨a,b,h1,h3.lq L⟩) ?_;refine Cu (fun y=>y 86) 13 22 [12] ?_ (hy:=fun y w _ u=>by go_simp);refine Ce (fun y T H F=>?_);obtain⟨gp,cp,e,hs⟩:=F.2.1;simp only[e];have HJ:=Za hs;clear hs e;have N:=Za H;clear H F;go_simp;have H:=N.o;clear N;generalize T=v9 at H HJ|-;refine Ek ?_;clear je jf jg Hm I hZ ja;have hp:=cell_later H hp;have H6:=G.o.lt;have G:=Za (G.o.lq H);have E:=Za (E.o.lq H);have B:=Za (B.o.lq H);have Hq:=Za (Hq.o.lq H);have HC:=Za (Zc HI.o H);have jI:=H.size;clear H HI
  obtain⟨bp,op,rfl,HPC⟩:∃b off,gp=some (Ad b off)/\Hd (∀k,k<p.length->V2 v9 b (off+k) (p.getD k 0)):=by
   rcases HJ.o with h|⟨b,off,h,hc⟩
   . subst h;simp at hs;omega
   . exact⟨b,off,h,Za hc⟩
  clear HJ
  go_upto_region 11 with fail;have H7:=G.o.lt
  go_loopw [21,23] (fun s0 ix wr=>∃k:Nat,k<=m/\ix=Vi k/\wr.ownsRow v9.heap.size 169 3 s0 k (svL (moU (sv i) p k))/\Bw v9 wr) (fun _ ix _=>m-(intOf ix).toNat)
  case atStart=>exact⟨0,by omega,rfl,World.ownsRow_nil _ _ _ _,Below.refl _ _⟩
  case round=>
   obtain⟨k,hk,rfl,hj,hl⟩:=hrel
   by_cases hlt:k<m
   . obtain⟨b,off,jh,c0,c1,c2⟩:=(HV.o.lq (Zc HC.o hl)).at (k:=k) (by omega);have hJ:=cell_later hl hp;rw[jh] at hJ;have hV:=cell_later hl (HPC.o k (by omega));generalize hL:p.getD k 0=pk at *;have HT:Hd (moU (sv i) p (k+1)=moU (sv i) p k++[(pk,(A0 (sv i) k).2)]):=Za (by rw[moU,hL]);generalize jw:(A0 (sv i) k).1=si at *;generalize ji:(A0 (sv i) k).2.1=sb at *;generalize jj:(A0 (sv i) k).2.2=so at *;have H8:Hd (svL (moU (sv i) p (k+1))=svL (moU (sv i) p k)++[Vi pk,Vi sb,.bool so]):=Za (by rw[HT.o,L4,ji,jj])
     have k0:(0:Int)<=(k:Int):=by omega
     have k1:(k:Int)<(m:Int):=by omega
     have Ht:=Za hj;have W:=Za hl;clear hj hl HT hL jw ji jj jh;have HK:=Za (NO Ht.o);have Hz:Hd (Blk 169 (wr.alloc (.cells #[Vi si,Vi sb,.bool so] 169)) wr.heap.size [Vi si,Vi sb,.bool so]):=Za (Blk.new wr _ _);have hV:=cell_later (Zb wr (.cells #[Vi si,Vi sb,.bool so] 169)) hV;have Ht:=Za (Ht.o.alloc (.cells #[Vi si,Vi sb,.bool so] 169));have jk:=W.o.size;have W:=Za (Zc W.o (Zb wr (.cells #[Vi si,Vi sb,.bool so] 169)))
     go_upto_region 14 with fail;clear c0 c1 c2 hJ;generalize wr.alloc (.cells #[Vi si,Vi sb,.bool so] 169)=y1 at *;generalize wr.heap.size=q1 at Hz HK jk|-;have f0:=(Hz.o.cell (j:=0) rfl).1;have f1:=(Hz.o.cell (j:=0) rfl).2
     go_upto_region 15 with fail;clear f0 f1 hV;have HD:Hd (Blk 169 (y1.setCell (Ad q1 0) (Vi pk)) q1 [Vi pk,Vi sb,.bool so]):=Za (Hz.o.set 0 (Vi pk));have Ht:=Za (EL (x:=Vi pk) (j:=0) Ht.o HK.o);have W:=Za (W.o.setCell (p:=⟨q1,0,none⟩) jk (Vi pk));generalize y1.setCell (Ad q1 0) (Vi pk)=y2 at *;have d0:=(HD.o.cell (j:=0) rfl).1;have d1:=(HD.o.cell (j:=1) rfl).1;have d2:=(HD.o.cell (j:=2) rfl).1;clear Hz HD HK
     go_wp2_with (at_builtin;refine wpList_append_lies _ rfl _ _ 104 rfl v9.heap.size 169 i0' (.agg #[Vi 0,Vi 0,.bool false]) 3 24 underlying104 jl jm jn jo rfl (by decide) _ _ _ rfl (Ht.o.alloc _) ⟨y2.heap.size,0,none⟩ 1 1 [Vi pk,Vi sb,.bool so] rfl rfl (Jhm y2 _ _ _ _) (fun x hx=>by simp at hx;rcases hx with rfl|rfl|rfl<;>rfl) (by omega) (by unfold maxLen;omega) (by omega) (Zc W.o Vc).size _ rfl ?_;intro g9 c9 x9 hj hr jx hW;have HE:=Za hj;have HL:=Za ((Zc W.o Vc).grown hr (Zc W.o Vc).size (fun q hq=>(Ht.o.lt q hq).1));clear hj hr jx hW);go_roundw
     case rel=>exact⟨k+1,by omega,by go_num,by rw[H8.o];exact HE.o,HL.o⟩
     case measure=>simp[intOf];omega
   . obtain rfl:k=m:=by omega
     obtain⟨g,c,hv',jJ,jK⟩:=hj.form (by omega);subst hv';have HU:=Za (L5 (Jcc _ _ _).symm hj);have HZ:=Za (G.o.lq hl);have E:=Za (E.o.lq hl).range;have B:=Za (B.o.lq hl).range;have Hq:=Za (Hq.o.lq hl).range;have W:=Za (Zc HC.o hl);have jL:=HC.o.size;clear hj hl HPC hp G HC;generalize hL':moU (sv i) p k=L' at *;have HX:Hd (QR≠QZ/\QH≠QZ/\QK≠QZ/\g≠QZ/\w.heap.size<=QZ):=Za ⟨by omega,by omega,by omega,by omega,by omega⟩;have jy:=fun u h=>(hn g c u h).mono (fun _ w' h=>And.intro h.1 (show Bw u w' by rw[h.2];exact Below.refl _ _))
     go_upto_region 16 with fail;have HY:Hd (MdS w QR QH QK QZ g (Qaq C i mo) [Vi ha,Vi hd,Vi n] [Vi sk,Vi Z,Vi Y,Vi n,Vi pv] L' wr.drew):=Za (MdS.lq Vb ⟨E.o,Hq.o,B.o,HU.o,⟨_,rfl,HZ.o⟩,W.o⟩);clear E Hq B HU HZ W;refine wp_region_held_drew (S:=fun u=>(MdS w QR QH QK QZ g (Qaq C i mo) [Vi ha,Vi hd,Vi n] [Vi sk,Vi Z,Vi Y,Vi n,Vi pv] L' u)) (by kernel_rfl) (HY.o) (fun _=>?_);have Hr:Hd ((MdS w QR QH QK QZ g (Qaq C i mo) [Vi ha,Vi hd,Vi n] [Vi sk,Vi Z,Vi Y,Vi n,Vi pv] L' wr.drew)):=Za (HY.o);refine Tq 0 Hr.o ?_;simp only[Act.put,Ly];refine Tk 1 rfl (yieldsIf_load_mid (by rfl) 224 (.tmp 15) rfl QR 0 rfl (Qaq C i mo) _ (fun w P=>P.1) underlying224 rfl YZ) Hr.o ?_;simp only[Act.put,Ly];refine Tk 2 rfl (yieldsIf_load_mid (by rfl) 107 (.tmp 19) rfl QH 0 rfl [Vi ha,Vi hd,Vi n] _ (fun w P=>P.2.1) underlying107 rfl Xq) Hr.o ?_;simp only[Act.put,Ly];refine Tk 3 rfl (yieldsIf_load_mid (by rfl) 238 (.tmp 17) rfl QK 0 rfl [Vi sk,Vi Z,Vi Y,Vi n,Vi pv] _ (fun w P=>P.2.2.1) underlying238 rfl C6) Hr.o ?_;simp only[Act.put,Ly];refine Tq 4 Hr.o ?_;simp only[Act.put,Ly];refine Tq 5 Hr.o ?_;simp only[Act.put,Ly];refine Ra 6 (fun K hK=>?_);go_simp;refine Sb (jy _ Hr.o.2.2.2.1) fun T L=>?_;have N:=Za (MdS.lq L Hr.o);clear L;go_wp2_with fail;refine hK.out _ _ N.o (fun _=>?_);clear hK K;refine Ra 7 (fun K hK=>?_);go_simp;refine Sb (hO _) fun u2 L=>?_;have J:=Za (MdS.lq L N.o);clear L;go_wp2_with fail;refine hK.out _ _ J.o (fun _=>?_);clear hK K;clear N;refine Tq 8 J.o ?_;simp only[Act.put,Ly];refine Ra 9 (fun K hK=>?_);rw[if_pos (by rfl)]
     refine Z2 107 (.tmp 13) (.tmp 116) rfl QZ (0) #[Vi ha,Vi td,Vi n] rfl rfl (by obtain⟨cs,h1,h2⟩:=J.o.2.2.2.2.1;exact h2.there (by rw[h1];exact Nat.le_refl _)) Xq (Zm _ rfl) rfl ?_;have Hu:=Za (MdS.put HX.o [Vi ha,Vi td,Vi n] J.o);have H9:=Za (World.rangeAt_setCells_same _ QZ 0 [Vi ha,Vi td,Vi n] (by obtain⟨cs,h1,h2⟩:=J.o.2.2.2.2.1;exact h2.there (by rw[h1];exact Nat.le_refl _)));have HM:=Za (MdS.put HX.o [Vi ha,Vi td,Vi n] J.o);refine hK.out _ _ Hu.o (fun _=>?_);clear hK K;clear J;refine Dn ?_;go_simp;refine Ek ?_;go_wp2_with fail;refine bodyPost_ret (v:=.tuple #[Vf g 0 k c,.agg #[Vi ha,Vi td,Vi n]]) (Jes _ _ QZ [Vi ha,Vi td,Vi n] _ rfl rfl H9.o rfl) rfl ⟨⟨g,⟨c,rfl⟩,by omega,(by first|exact HM.o.2.2.2.1|(rw[hL'];exact HM.o.2.2.2.1))⟩,HM.o.2.2.2.2.2⟩
theorem Np(a c d:Int)(y:Yf (a,3,c,d)=true)(w:V6):
 Va 49 #[Vi a,Vi c,Vi d] w (Rt w (.int .u32 (pk1 (a,3,c,d)))):=by
 have hw:=fun w=>(Int.lt_or_le d 0).elim (fun h=>KO a 3 c d y h w) (fun h=>KP a 3 c d y h w);have j:Hd (Z7 a 3 c d=pk1 (a,3,c,d)):=Za rfl;rw[j.o] at hw;generalize pk1 (a,3,c,d)=z at *;clear j y
 go_enter func49,ntmps49
 go_wp2_with (go_at_call 74;refine Sb (hw _) fun e m=>?_);go_ret;exact⟨rfl,m⟩
end Go.Proofs.YtnepnnkdgejheaaGreatDoor
