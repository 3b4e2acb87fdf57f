
import Derived.Test.YtnepnnkdgejheaaGreatDoorKp20
set_option maxRecDepth 100000
set_option maxHeartbeats 20000000
namespace Go.Proofs.YtnepnnkdgejheaaGreatDoor
open Go.RowKit Plain Tryz
variable {D k n:Nat}{R T:Int}{f:Nat->Int}{l:List Sv}{u u' w:V6}
def DA(w:V6)(D n:Nat)(f:Nat->Int):Prop:=∀j,j<n->V2 w D j (f j)/\w.frozen? (Ad D j)=false
theorem DA.lq{w':V6}(h:DA w D n f)(m:Bw w w'):DA w' D n f:=fun j y=>
 ⟨cell_later m (h j y).1,(m.frozen (p:=⟨D,j,none⟩) (World.block_lt_of_cell? w ⟨D,j,none⟩ (h j y).1)).trans (h j y).2⟩
def LW(f:Nat->Int)(k:Nat)(v:Int)(j:Nat):Int:=if j=k then v else f j
theorem DA.set(h:DA w D n f)(k:Nat)(v:Int):DA (w.setCell (Ad D k) (Vi v)) D n (LW f k v):=fun j y=>by
 refine⟨?_,by simpa[go_sem] using(h j y).2⟩
 unfold LW
 by_cases e:j=k
 . subst e;rw[if_pos rfl];exact Wo (h j y).1
 . rw[if_neg e];exact Zn (h j y).1 (Zu (hc:=Ne.symm e))
theorem DA.new(w:V6)(n:Nat)(t:TypeId):DA (w.alloc (.cells (madeCells #[Vi 0] n) t)) w.heap.size n (fun _=>0):=fun j h=>by
 have e:(madeCells #[Vi 0] n)[j]?=some (Vi 0):=by rw[<-Array.getElem?_toList,toList_madeCells_one,List.getElem?_replicate,if_pos h]
 exact⟨by simp[go_sem,e],by simp[go_sem]⟩
theorem Jlz{w0:V6}{K:Nat}{v:Value}(h:Below K w0 w)(y:K<=D):Below K w0 (w.setCell (Ad D k) v):=h.setCell y v
def TV(T R:Int)(l:List Sv)(v s:Int)(k j:Nat):Int:=if j<k then dlI T R l v s j else 0
theorem Nm(T R:Int)(l:List Sv)(v s:Int)(k:Nat):TV T R l v s (k+1)=LW (TV T R l v s k) k (dlI T R l v s k):=by
 funext j;simp only[TV,LW];by_cases h1:j=k
 . subst h1;simp
 . by_cases h2:j<k
   . rw[if_pos (by omega),if_neg h1,if_pos h2]
   . rw[if_neg (by omega),if_neg h1,if_neg h2]
theorem KB{g:Nat->Int}{a b:Int}(h:LW f k a=g):LW f k b=LW g k b:=by
 subst h;funext j;simp only[LW];split<;>rfl
theorem GN{t:Int}(y:Bw u u')(h:V2 u D k t/\DA u D n f/\Bw w u):V2 u' D k t/\DA u' D n f/\Bw w u':=
 ⟨cell_later y h.1,h.2.1.lq y,Zc h.2.2 y⟩
theorem Jd8(n:Nat)(hn:n<=9)(w:V6):(Instr.makeSlice 34 (Vi (n:Int)) (Vi (n:Int))).run prog w=.ok (Vf w.heap.size 0 n n) (w.alloc (.cells (madeCells #[Vi 0] n) 3)):=by
 obtain⟨y,hi,ha,j,hc⟩:=info_parts F0;have h:=run_make (P:=prog) (w:=w) 34 3 y (Vi 0) underlying34 hi ha .i64 .i64 (n:Int) (n:Int) (by omega) (by omega) (by rw[hc];omega) (by omega);rw[j,Int.toNat_natCast,Nat.mul_one] at h;exact h
theorem Jo9{v s:Int}(hn:n=l.length)(h:DA w D n (TV T R l v s n)):ILs w (some (Ad D 0)) (dlU T R l v s l.length):=by
 subst hn
 right
 refine⟨D,0,rfl,fun k hk=>?_⟩;rw[Xk] at hk
 show w.cell? _=_
 rw[Nat.zero_add,(h k hk).1];have e:TV T R l v s l.length k=dlI T R l v s k:=if_pos hk
 have g:∀n k,k<n->(dlU T R l v s n).getD k 0=dlI T R l v s k:=by
  intro n
  induction n with
  |zero=>intro k h;omega
  |succ n ih=>
   intro k h;rw[dlU,List.getD_eq_getElem?_getD]
   by_cases e:k=n
   . subst e;rw[List.getElem?_append_right (by rw[Xk];omega),Xk];simp
   . rw[List.getElem?_append_left (by rw[Xk];omega),<-List.getD_eq_getElem?_getD];exact ih k (by omega)
 rw[e,g _ k hk]
theorem Jl0(T R S C v J:Int)(l:List Sv)(a:V8)(U:Nat)(v0:-2000<=v)(v1:v<=2000)(m0:-20000<=J)(m1:J<=20000)(M:AV T R S C l)(hl:l.length<=9)(w:V6)(hw:WLs w a T R l):
 Va 326 #[.slice a l.length U,Vi v,Vi J] w fun e w'=>(∃g cap,e=.returned (Vf g 0 l.length cap)/\w.heap.size<=g/\ILs w' (some (Ad g 0)) (dlU T R l v (J-tot T R l v) l.length))/\Bw w w':=by
 have HW:=Za hw;have A:=Za M;have B:=Mt T R S C l v a U M hl w hw;have W:=FA M v (hl:=hl);have hm:=Jd8 l.length hl;have hs:=Ef;have ht:=GL;obtain⟨s,HSE⟩:∃s,Hd (J-tot T R l v=s):=⟨_,rfl⟩
 have s0:-30000<=s/\s<=30000:=by have:=HSE.o;omega
 clear hw M
 go_enter func326,ntmps326
 go_wp2_with (go_at_call 325;refine B.mono ?_;rintro e N ⟨rfl,E⟩);have y:=Za (DA.new N l.length 3);have j:=Za (Zc E (Zb N (.cells (madeCells #[Vi 0] l.length) 3)));have hd:=E.size;generalize N.alloc (.cells (madeCells #[Vi 0] l.length) 3)=w3 at *;generalize N.heap.size=D at *;clear E B hm;rw[HSE.o]
 go_loopw [7,21] (fun x i wr=>∃k:Nat,k<=l.length/\i=Vi k/\x=Vi (lfU T R l v s k)/\DA wr D l.length (TV T R l v s k)/\Bw w wr) (fun _ i _=>l.length-(intOf i).toNat)
 case atStart=>exact⟨0,Nat.zero_le _,rfl,rfl,y.o,j.o⟩
 case round=>
  clear y j;obtain⟨k,hk,rfl,rfl,P,Y⟩:=hrel
  by_cases hlt:k<l.length
  . obtain⟨bb,off,rfl,hc⟩:=(HW.o.lq Y).at hlt;have y:=Za P;have j:=Za Y;have hu:=XJ T R l v s k;have hn:=DV A.o hlt v;have hr:=DV A.o hlt (v+1);have m:=Za (show lfU T R l v s (k+1)=if 0<lfU T R l v s k/\tk T R (A0 l k) v<tk T R (A0 l k) (v+1) then lfU T R l v s k-1 else lfU T R l v s k from rfl);have H:=Za (show dlI T R l v s k=if 0<lfU T R l v s k/\tk T R (A0 l k) v<tk T R (A0 l k) (v+1) then tk T R (A0 l k) v+1 else tk T R (A0 l k) v from rfl);have F:∀u,tk T R (A0 l k) u=Ze u (loR T R (A0 l k).1 (A0 l k).2.2) (hiR T R (A0 l k).1 (A0 l k).2.2):=fun _=>rfl
    have j0:(0:Int)<=(k:Int):=by omega
    have j1:(k:Int)<(l.length:Int):=by omega
    clear P Y W;generalize lfU T R l v s k=x at*
    cases ho:(A0 l k).2.2
    . have h1:=Ee (loR T R (A0 l k).1 (A0 l k).2.2) (hiR T R (A0 l k).1 (A0 l k).2.2) v;have h2:=Ee (loR T R (A0 l k).1 (A0 l k).2.2) (hiR T R (A0 l k).1 (A0 l k).2.2) (v+1);rw[<-F] at h1 h2
      unfold tv at hc
      rw[if_neg (by simp[ho])] at hc;clear F ho;generalize tk T R (A0 l k) v=t at *;generalize tk T R (A0 l k) (v+1)=t2 at *;generalize loR T R (A0 l k).1 (A0 l k).2.2=lo at *;generalize hiR T R (A0 l k).1 (A0 l k).2.2=hi at*
      go_upto_region 7 with(go_at_call 422;refine Sb (h1 _) fun I ha=>?_;have y:=Za (y.o.lq ha);have j:=Za (Zc j.o ha);have c0:=(y.o k hlt).1;have c1:=(y.o k hlt).2;clear ha);have y:=Za (y.o.set k t);have j:=Za (Jlz (k:=k) (v:=Vi t) j.o hd);generalize I.setCell (Ad D k) (Vi t)=w2 at *;clear c0 c1;obtain⟨f,HFE⟩:∃f,Hd (LW (TV T R l v s k) k t=f):=⟨_,rfl⟩;rw[HFE.o] at y;have c0:=(y.o k hlt).1;have c1:=(y.o k hlt).2
      have L:Hd (f k=t):=by show f k=t;rw[<-HFE.o];exact if_pos rfl
      rw[L.o] at c0
      by_cases X:0<x
      . have O:w2.cell? (Ad D k)=some (Vi t)/\DA w2 D l.length f/\Bw w w2:=⟨c0,y.o,j.o⟩;have Z:=Za O;have v1:=Wr (v+1)
        by_cases K:t<t2
        . rw[if_pos ⟨X,K⟩] at m H
          go_region_held3 (fun u=>V2 u D k t/\DA u D l.length f/\Bw w u)
           (first
            |(with_reducible assumption)
            |(with_reducible apply GN;with_reducible assumption;with_reducible assumption)
            |(refine GN ?_ Z.o;exact Vb))
           (first
            |(go_at_call 422;refine Sb (h2 _) fun w' Y=>?_))
          all_goals
           rename_i hH
           have Q:=Za hH.2.1;have G:=Za hH.2.2;have d0:=hH.1;have d1:=(hH.2.1 k hlt).2;clear hH c0 c1;go_wp2_with fail;go_roundw
           (case rel=>exact⟨k+1,by omega,by go_num,by rw[m.o],by rw[Nm,H.o,KB HFE.o];exact Q.o.set k (t+1),Jlz G.o hd⟩)
           (case measure=>simp[intOf];omega)
        . rw[if_neg (fun h=>K h.2)] at m H
          go_region_held3 (fun u=>V2 u D k t/\DA u D l.length f/\Bw w u)
           (first
            |(with_reducible assumption)
            |(with_reducible apply GN;with_reducible assumption;with_reducible assumption)
            |(refine GN ?_ Z.o;exact Vb))
           (first
            |(go_at_call 422;refine Sb (h2 _) fun w' Y=>?_))
          all_goals
           rename_i hH
           have Q:=Za hH.2.1;have G:=Za hH.2.2;clear hH c0 c1;go_wp2_with fail;go_roundw
           (case rel=>exact⟨k+1,by omega,by go_num,by rw[m.o],by rw[Nm,H.o,HFE.o];exact Q.o,G.o⟩)
           (case measure=>simp[intOf];omega)
      . have hp':decide (0<x)=false:=by simpa using X
        rw[if_neg (fun h=>X h.1)] at m H;go_quiet (fail);go_wp2;go_roundw
        case rel=>exact⟨k+1,by omega,by go_num,by rw[m.o],by rw[Nm,H.o,HFE.o];exact y.o.lq (below_drewN (Below.refl _ _) _),Zc j.o (below_drewN (Below.refl _ _) _)⟩
        case measure=>simp[intOf];omega
    . have h1:=Ed v;have h2:=Ed (v+1);rw[<-P5 (T:=T) (R:=R) (v:=v) ho] at h1;rw[<-P5 (T:=T) (R:=R) (v:=v+1) ho] at h2
      unfold tv at hc
      rw[if_pos ho] at hc;clear F ho;generalize tk T R (A0 l k) v=t at *;generalize tk T R (A0 l k) (v+1)=t2 at*
      go_upto_region 7 with(go_at_call 421;refine Sb (h1 _) fun I ha=>?_;have y:=Za (y.o.lq ha);have j:=Za (Zc j.o ha);have c0:=(y.o k hlt).1;have c1:=(y.o k hlt).2;clear ha);have y:=Za (y.o.set k t);have j:=Za (Jlz (k:=k) (v:=Vi t) j.o hd);generalize I.setCell (Ad D k) (Vi t)=w2 at *;clear c0 c1;obtain⟨f,HFE⟩:∃f,Hd (LW (TV T R l v s k) k t=f):=⟨_,rfl⟩;rw[HFE.o] at y;have c0:=(y.o k hlt).1;have c1:=(y.o k hlt).2
      have L:Hd (f k=t):=by show f k=t;rw[<-HFE.o];exact if_pos rfl
      rw[L.o] at c0
      by_cases X:0<x
      . have O:w2.cell? (Ad D k)=some (Vi t)/\DA w2 D l.length f/\Bw w w2:=⟨c0,y.o,j.o⟩;have Z:=Za O;have v1:=Wr (v+1)
        by_cases K:t<t2
        . rw[if_pos ⟨X,K⟩] at m H
          go_region_held3 (fun u=>V2 u D k t/\DA u D l.length f/\Bw w u)
           (first
            |(with_reducible assumption)
            |(with_reducible apply GN;with_reducible assumption;with_reducible assumption)
            |(refine GN ?_ Z.o;exact Vb))
           (first
            |(go_at_call 421;refine Sb (h2 _) fun w' Y=>?_))
          all_goals
           rename_i hH
           have Q:=Za hH.2.1;have G:=Za hH.2.2;have d0:=hH.1;have d1:=(hH.2.1 k hlt).2;clear hH c0 c1;go_wp2_with fail;go_roundw
           (case rel=>exact⟨k+1,by omega,by go_num,by rw[m.o],by rw[Nm,H.o,KB HFE.o];exact Q.o.set k (t+1),Jlz G.o hd⟩)
           (case measure=>simp[intOf];omega)
        . rw[if_neg (fun h=>K h.2)] at m H
          go_region_held3 (fun u=>V2 u D k t/\DA u D l.length f/\Bw w u)
           (first
            |(with_reducible assumption)
            |(with_reducible apply GN;with_reducible assumption;with_reducible assumption)
            |(refine GN ?_ Z.o;exact Vb))
           (first
            |(go_at_call 421;refine Sb (h2 _) fun w' Y=>?_))
          all_goals
           rename_i hH
           have Q:=Za hH.2.1;have G:=Za hH.2.2;clear hH c0 c1;go_wp2_with fail;go_roundw
           (case rel=>exact⟨k+1,by omega,by go_num,by rw[m.o],by rw[Nm,H.o,HFE.o];exact Q.o,G.o⟩)
           (case measure=>simp[intOf];omega)
      . have hp':decide (0<x)=false:=by simpa using X
        rw[if_neg (fun h=>X h.1)] at m H;go_quiet (fail);go_wp2;go_roundw
        case rel=>exact⟨k+1,by omega,by go_num,by rw[m.o],by rw[Nm,H.o,HFE.o];exact y.o.lq (below_drewN (Below.refl _ _) _),Zc j.o (below_drewN (Below.refl _ _) _)⟩
        case measure=>simp[intOf];omega
  . have e:k=l.length:=by omega
    have HL:=Za (Jo9 e (by subst e;exact P));subst e;clear P;go_wp2;go_ret;exact⟨⟨_,_,rfl,hd,by rw[HSE.o];exact HL.o⟩,Y⟩
theorem Jhs{x:V8}(y:Bw u u')(h:V0 u w 0 T/\WLs u x T R l/\Bw w u):V0 u' w 0 T/\WLs u' x T R l/\Bw w u':=⟨cell_later y h.1,h.2.1.lq y,Zc h.2.2 y⟩
theorem Jd9(T R S C sum v:Int)(l:List Sv)(a:V8)(G:Nat)(ha:AV T R S C l)(h1:1<=l.length)(h4:l.length<=4)(Y:C4 T R l (Ze sum (tot T R l (-T)) (tot T R l T)) v)(w:V6)(hw:VLs w a l):
 Va 292 #[.agg #[Vi T,Vi R,Vi S,Vi C],.slice a l.length G,Vi sum] w fun e w'=>(∃g cap,e=.returned (.tuple #[Vf g 0 l.length cap,.nilIface])/\w.heap.size<=g/\ILs w' (some (Ad g 0)) (dlU T R l v (Ze sum (tot T R l (-T)) (tot T R l T)-tot T R l v) l.length))/\Bw w w':=by
 have m:=Za (RB.new w T R S C);have A:=Za hw;have ⟨t0,B⟩:=(Yh ha.1).1;have J:=M3 T R S C;rw[show arE T R S C=0 by unfold arE;rw[if_pos ha.1],Z0] at J;have W:=fun u j=>XW T R S C l a G l.length (Nat.le_refl _) ha.1 ha.2 (fun h=>by omega) (by omega) u j;have b1:=FA ha (-T);have b2:=FA ha T;have HM:=Za (Ni T R l (show -T<=T by omega));obtain⟨s,HSE⟩:∃s,Hd (Ze sum (tot T R l (-T)) (tot T R l T)=s):=⟨_,rfl⟩;have K:=Y1 sum (tot T R l (-T)) (tot T R l T);have M:=Xb (v:=sum) HM.o;rw[HSE.o] at Y K M;have bv:=And.intro Y.1 Y.2.1;have hq:=fun x c u j=>LV T R S C s v l x c (by omega) B ha (by omega) M.1 Y u j;have hr:=fun x c u j=>Jl0 T R S C v s l x c (by omega) (by omega) (by omega) (by omega) ha (by omega) u j;have N:=fun x c u j=>Mt T R S C l (-T) x c ha (by omega) u j;have P:=fun x c u j=>Mt T R S C l T x c ha (by omega) u j
 have i1:(1:Int)<=(l.length:Int):=by omega
 have i4:(l.length:Int)<=4:=by omega
 have v1:=Wr (-T);clear hw ha Y;rw[HSE.o]
 go_enter func292,ntmps292
 go_upto_region 9 with(first
  |(go_at_call 149;refine Sb (J _) fun w1 hi=>?_;have m:=Za (m.o.lq hi);obtain⟨q0,D,E,F⟩:=m.o.1;clear hi)
  |(go_at_call 324;refine(W _ (A.o.lq m.o.2)).mono ?_;rintro e Q ⟨(⟨_,x,cap,rfl,I⟩|⟨hs,_⟩),hk⟩;rotate_left;omega;have m:=Za (m.o.lq hk);have L:=Za I;obtain⟨q0,D,E,F⟩:=m.o.1;clear hk I))
 generalize tot T R l (-T)=tA at *;generalize tot T R l T=tB at *;have O:Q.cell? (Ad w.heap.size 0)=some (Vi T)/\WLs Q x T R l/\Bw w Q:=⟨q0,L.o,m.o.2⟩;have Z:=Za O;have hc:∀u,(V0 u w 0 T/\WLs u x T R l/\Bw w u)->Va 325 #[.slice x l.length cap,Vi (-T)] u (Rt u (Vi tA)):=fun u j=>N x cap u j.2.1;have hd:∀u,(V0 u w 0 T/\WLs u x T R l/\Bw w u)->Va 325 #[.slice x l.length cap,Vi T] u (Rt u (Vi tB)):=fun u j=>P x cap u j.2.1;clear N P
 go_cut [2] (fun c u=>c=Vi s/\(V0 u w 0 T/\WLs u x T R l/\Bw w u))
 case first=>
  go_region_held3 (fun u=>V0 u w 0 T/\WLs u x T R l/\Bw w u)
   (first
    |(with_reducible assumption)
    |(with_reducible apply Jhs;with_reducible assumption;with_reducible assumption)
    |(refine Jhs ?_ Z.o;exact Vb))
   (first
    |(go_at_call_of 325 (-T);refine Sb (hc _ (by with_reducible assumption)) fun w' hb=>?_)
    |(go_at_call 325;refine Sb (hd _ (by with_reducible assumption)) fun w' hb=>?_)
    |(go_at_call 264;refine Sm (K _) ?_))
  all_goals
   rename_i X
   go_wp2_with fail
   go_meet
   (case rel=>exact⟨rfl,X⟩)
 case rest=>
  obtain⟨rfl,X⟩:=hcut;rename World=>wb;clear O Z q0 D E F L m;have H:=Za X;have p0:=X.1;clear X
  go_wp2_with (first
   |(go_at_call 327;refine Sb (hq _ _ _ H.o.2.1) fun w4 hl=>?_;have H:=Za (Jhs hl H.o);clear hl)
   |(go_at_call 326;refine(hr _ _ _ H.o.2.1).mono ?_;rintro e w5 ⟨⟨y,cy,rfl,U,hn⟩,ho⟩;have HY:=Za hn;have Hb:=Za (Nat.le_trans H.o.2.2.size U);clear U;have HB:=Za (Zc H.o.2.2 ho);clear ho hn))
  go_ret2;exact⟨⟨_,_,rfl,Hb.o,HY.o⟩,HB.o⟩
end Go.Proofs.YtnepnnkdgejheaaGreatDoor
