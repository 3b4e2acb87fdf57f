
import Derived.Test.YtnepnnkdgejheaaGreatDoorKp03
set_option maxRecDepth 100000
set_option maxHeartbeats 20000000
namespace Go.Proofs.YtnepnnkdgejheaaGreatDoor.Plain
def bk(R f:Int):Int:=if _h:0<f/\0<R then f+bk R (f-R) else 0
termination_by f.toNat
decreasing_by omega
theorem JD{R f:Int}(h:0<R)(y:0<f):bk R f=f+bk R (f-R):=by
 rw[bk,dif_pos ⟨y,h⟩]
theorem DJ{R f:Int}(h:f<=0):bk R f=0:=by
 rw[bk,dif_neg (by omega)]
theorem Ut(R f:Int):0<=bk R f:=by
 rw[bk]
 split
 . rename_i h
   have:=Ut R (f-R)
   omega
 . exact Int.le_refl _
termination_by f.toNat
decreasing_by omega
theorem CB{R f g:Int}(y:0<R)(h:f<=g):bk R f<=bk R g:=by
 by_cases hf:0<f
 . rw[JD y hf,JD (f:=g) y (by omega)];have:=CB (R:=R) (f:=f-R) (g:=g-R) y (by omega)
   omega
 . rw[DJ (by omega)];exact Ut R g
termination_by f.toNat
decreasing_by omega
theorem Jnv{R f:Int}(y:0<R)(j:0<f):bk R f<=f*f:=by
 rw[JD y j]
 by_cases h:0<f-R
 . have i:=Jnv (R:=R) (f:=f-R) y h;have h1:(f-R)*(f-R)<=(f-1)*(f-1):=Int.mul_le_mul (by omega) (by omega) (by omega) (by omega)
   have h2:(f-1)*(f-1)=f*f-f-f+1:=by rw[Int.sub_mul,Int.mul_sub];omega
   omega
 . rw[DJ (by omega)];have:f*1<=f*f:=Int.mul_le_mul_of_nonneg_left (by omega) (by omega)
   omega
termination_by f.toNat
decreasing_by omega
theorem S4{R f:Int}(y:0<R)(h:f<=6000):bk R f<=36000000:=by
 have h0:=CB y h;have h1:=Jnv (R:=R) (f:=6000) y (by omega)
 omega
theorem S5{R f:Int}(y:0<R)(m:0<f):2*bk R f=((f-1)/R+1)*(f+(f-((f-1)/R)*R)):=by
 rw[JD y m]
 by_cases h:0<f-R
 . have i:=S5 (R:=R) (f:=f-R) y h
   have e:(f-1)/R=(f-R-1)/R+1:=by
    rw[show f-1=(f-R-1)+R by omega,Int.add_ediv_of_dvd_right (Int.dvd_refl R),Int.ediv_self (by omega)]
   rw[Int.mul_add,i,e];generalize (f-R-1)/R=k
   have j:(k+1)*R=k*R+R:=by rw[Int.add_mul];omega
   rw[j];generalize w:k*R=q
   have H:(k+1)*(f-R+(f-R-q))=(k+1)*(f+(f-(q+R)))-(k+1)*R:=by
    rw[<-Int.mul_sub];congr 1;omega
   have Z:(k+1+1)*(f+(f-(q+R)))=(k+1)*(f+(f-(q+R)))+(f+(f-(q+R))):=by
    rw[Int.add_mul (k+1) 1,Int.one_mul]
   rw[H,Z,j,w]
   omega
 . rw[DJ (by omega),Int.ediv_eq_zero_of_lt (by omega) (by omega)]
   omega
termination_by f.toNat
decreasing_by omega
theorem Jk6{R f:Int}(h:0<R)(y:0<f):((f-1)/R+1)*(f+(f-((f-1)/R)*R))/2=bk R f:=by
 rw[<-S5 h y];omega
def BB(R p lo hi room h:Int):Prop:=lo<=h/\h<=hi/\(h=lo\/bk R (h+p)<=room)/\∀s,h<s->s<=hi->room<bk R (s+p)
theorem BB.only{R p lo hi room h k:Int}(H:BB R p lo hi room h)(K:BB R p lo hi room k):h=k:=by
 obtain⟨w,y,Z,j⟩:=H;obtain⟨Y,m,X,e⟩:=K
 rcases Int.lt_trichotomy h k with c|c|c
 . have:=j k c m
   omega
 . exact c
 . have:=e h c y
   omega
def grB(L H N P M R:Int):Bool:=decide (-100000<=L)&&decide (L<=100000)&&(decide (-100000<=H)&&decide (H<=100000))&&(decide (0<=N)&&decide (N<=1000))&&(decide (0<=P)&&decide (P<=2000))&&(decide (1<=M)&&decide (M<=4000))&&(decide (1<=R)&&decide (R<=M))
def gfB(L H N P M R:Int):Bool:=decide (P<=M)&&decide (P<=R)&&decide (2*(N+bk R (M+P))<=H-L)
def grE(L H N P M R:Int):Int:=if grB L H N P M R then(if gfB L H N P M R then 0 else 3) else 1
structure GR (L H N P M R:Int):Prop where
 l0:-100000<=L
 l1:L<=100000
 h0:-100000<=H
 h1:H<=100000
 n0:0<=N
 n1:N<=1000
 p0:0<=P
 p1:P<=2000
 m0:1<=M
 m1:M<=4000
 r0:1<=R
 r1:R<=M
theorem DK{L H N P M R:Int}(h:grB L H N P M R=true):GR L H N P M R:=by
 simp only[grB,Bool.and_eq_true,decide_eq_true_eq] at h
 constructor<;>omega
structure GOK (L H N P M R:Int):Prop extends GR L H N P M R where
 pm:P<=M
 pr:P<=R
 room:2*(N+bk R (M+P))<=H-L
theorem OD{L H N P M R:Int}(h:grE L H N P M R=0):GOK L H N P M R:=by
 unfold grE at h
 by_cases h1:grB L H N P M R=true
 . rw[if_pos h1] at h
   by_cases h2:gfB L H N P M R=true
   . have a:=DK h1;simp only[gfB,Bool.and_eq_true,decide_eq_true_eq] at h2;exact⟨a,h2.1.1,h2.1.2,h2.2⟩
   . rw[if_neg h2] at h;cases h
 . rw[if_neg h1] at h;cases h
theorem Jf3{L H N P M R lo hi y a b:Int}(g:GOK L H N P M R)(hl:-M<=lo)(m:hi<=M)
 (A:BB R P (-hi) (-lo) (y-N-L) a) (B:BB R P lo hi (H-N-y) b):-a<=b:=by
 obtain⟨e,w,Z,h⟩:=A;obtain⟨Y,X,Q,j⟩:=B;have:=g.room
 rcases Int.lt_or_le b (-a) with c|c
 . have u:=h (a+1) (by omega) (by omega);have v:=j (b+1) (by omega) (by omega);have m1:=CB (R:=R) (f:=a+1+P) (g:=M+P) (by have:=g.r0;omega) (by omega);have G:=CB (R:=R) (f:=b+1+P) (g:=M+P) (by have:=g.r0;omega) (by omega)
   omega
 . exact c
def Yi(M R q:Int):Int:=if q-R<=-M then -M else q-R
def Yu(M R q:Int):Int:=if M<=q+R then M else q+R
theorem Jf4(M R q:Int):Yi M R q=-M\/Yi M R q=q-R:=by unfold Yi;split<;>simp
theorem OE{M R q:Int}(h:1<=R)(y:1<=M)(h0:-M<=q)(h1:q<=M):Yi M R q<=Yu M R q/\-M<=Yi M R q/\Yu M R q<=M/\q-R<=Yi M R q/\Yu M R q<=q+R:=by
 unfold Yi Yu;split<;>split<;>omega
theorem WJ{R p lo hi room:Int}{n:Nat}(y:1<=R)(hn:hi-lo+1=(n:Int))(h:lo<=hi):
 BB R p lo hi room (lo+(if((List.range n).countP (fun i:Nat=>decide (bk R (lo+(i:Int)+p)<=room)):Int)-1<=0 then 0 else((List.range n).countP (fun i:Nat=>decide (bk R (lo+(i:Int)+p)<=room)):Int)-1)):=by
 have key:∀m:Nat,∃c:Nat,(List.range m).countP (fun i:Nat=>decide (bk R (lo+(i:Int)+p)<=room))=c/\c<=m/\(∀i,i<c->bk R (lo+(i:Int)+p)<=room)/\(∀i,c<=i->i<m->room<bk R (lo+(i:Int)+p)):=by
  intro m
  induction m with
  |zero=>exact⟨0,rfl,Nat.le_refl _,fun i hi=>absurd hi (Nat.not_lt_zero _),fun i _ h2=>absurd h2 (Nat.not_lt_zero _)⟩
  |succ m ih=>
   obtain⟨c,e,cm,f,t⟩:=ih;rw[List.range_succ,List.countP_append,e]
   by_cases hb:bk R (lo+(m:Int)+p)<=room
   . have all:∀i,i<m+1->bk R (lo+(i:Int)+p)<=room:=by
      intro i hi;have:=CB (R:=R) (f:=lo+(i:Int)+p) (g:=lo+(m:Int)+p) (by omega) (by omega)
      omega
     have hc:c=m:=by
      rcases Nat.lt_or_ge c m with d|d
      . have:=t c (Nat.le_refl _) d;have:=all c (by omega)
        omega
      . omega
     subst hc;refine⟨c+1,by simp[hb],Nat.le_refl _,all,fun i h1 h2=>by omega⟩
   . refine⟨c,by simp[hb],by omega,f,fun i h1 h2=>?_⟩
     by_cases hi:i<m
     . exact t i h1 hi
     . have:i=m:=by omega
       subst this;omega
 obtain⟨c,e,cm,f,t⟩:=key n;rw[e]
 have up:∀s,lo+(c:Int)<=s->s<=hi->room<bk R (s+p):=by
  intro s h1 h2;have:=t (s-lo).toNat (by omega) (by omega);rw[show lo+((s-lo).toNat:Int)+p=s+p by omega] at this;exact this
 by_cases hc:c=0
 . subst hc;rw[if_pos (by omega)];exact⟨by omega,by omega,Or.inl (by omega),fun s h1 h2=>up s (by omega) h2⟩
 . have q:(if(c:Int)-1<=0 then(0:Int) else(c:Int)-1)=(c:Int)-1:=by split<;>omega
   rw[q];refine⟨by omega,by omega,Or.inr ?_,fun s h1 h2=>up s (by omega) h2⟩;have:=f (c-1) (by omega);rw[show lo+((c-1:Nat):Int)+p=lo+((c:Int)-1)+p by omega] at this;exact this
end Go.Proofs.YtnepnnkdgejheaaGreatDoor.Plain
namespace Go.Proofs.YtnepnnkdgejheaaGreatDoor
open Go.RowKit Plain Tryz
variable {B n:Nat}{C H L M N P R S T b i:Int}{a c:Value}{o:Bool}{w w' w0:V6}
theorem Xj{x:Int}(h0:-9223372036854775808<=x)(h1:x<=9223372036854775807):IntKind.i64.wrap x=x:=by
 rw[IntKind.wrap_i64];omega
theorem G6(L H N P M R s:Int)(j:0<=P)(m:P<=2000)(r0:1<=R)(r1:R<=4000)(Z:-4000<=s)(Y:s<=4000)(w:V6):
 Va 180 #[.agg #[Vi L,Vi H,Vi N,Vi P,Vi M,Vi R],Vi s] w fun e w'=>e=.returned (Vi (bk R (s+P)))/\w'=w.alloc (.cells #[Vi L,Vi H,Vi N,Vi P,Vi M,Vi R] 220):=by
 have h:Hd (bk R (s+P)<=36000000):=S4 (by omega) (by omega);obtain⟨tot,y⟩:∃t,Hd (bk R (s+P)=t):=⟨_,rfl⟩;rw[y.o] at h|-
 go_enter func180,ntmps180
 go_wp2
 go_loop [1,5] (fun u v=>∃t n:Int,u=Vi t/\v=Vi n/\t<=s/\-8000<=t/\0<=n/\n+bk R (t+P)=tot) (fun u _=>(intOf u+8000).toNat)
 case atStart=>exact⟨s,0,rfl,rfl,by omega,by omega,by omega,by rw[y.o];omega⟩
 case round=>
  obtain⟨t,n,rfl,rfl,X,Q,n0,ha⟩:=hrel;have hn:Hd (n+bk R (t+P)=tot):=ha;clear ha
  have G:n<=36000000:=by have:=Ut R (t+P);have:=hn.o;have:=h.o;omega
  by_cases hgo:0<t+P
  . have hk:Hd (n+t+P+bk R (t-R+P)=tot):=by
     have e:=JD (R:=R) (f:=t+P) (by omega) hgo;rw[show t+P-R=t-R+P by omega] at e;have:=hn.o
     show _=_
     omega
    go_wp2
    go_round
    case rel=>exact⟨t-R,n+t+P,rfl,rfl,by omega,by omega,by omega,hk.o⟩
    case measure=>simp[intOf];omega
  . have hk:Hd (n=tot):=by
     have e:=DJ (R:=R) (f:=t+P) (by omega);have:=hn.o
     show _=_
     omega
    go_wp2;go_ret;exact⟨by rw[hk.o];rfl,rfl⟩
theorem JE(L H N P M R s:Int)(m:0<=P)(Z:P<=2000)(r0:1<=R)(Y:-4000<=s)(X:s<=4000)(w:V6)(r1:R<=4000:=by omega):
 Va 195 #[.agg #[Vi L,Vi H,Vi N,Vi P,Vi M,Vi R],Vi s] w fun e w'=>e=.returned (Vi (bk R (s+P)))/\w'=w.alloc (.cells #[Vi L,Vi H,Vi N,Vi P,Vi M,Vi R] 220):=by
 by_cases hgo:s+P<=0
 . rw[DJ hgo]
   go_enter func195,ntmps195
   go_wp2;go_ret;exact⟨rfl,rfl⟩
 . have Q:(R==0)=false:=by simp;omega
   have hk:=Jk6 (R:=R) (f:=s+P) (by omega) (by omega);rw[<-Int.tdiv_eq_ediv_of_nonneg (a:=s+P-1) (by omega)] at hk;have q0:0<=(s+P-1).tdiv R:=Int.tdiv_nonneg (by omega) (by omega)
   have G:(s+P-1).tdiv R<=6000:=by
    rw[Int.tdiv_eq_ediv_of_nonneg (by omega)];have:=Int.ediv_le_self (a:=s+P-1) R (by omega)
    omega
   have T:(s+P-1).tdiv R*R<=s+P-1:=by
    rw[Int.tdiv_eq_ediv_of_nonneg (by omega)];exact Int.ediv_mul_le _ (by omega)
   generalize ha:(s+P-1).tdiv R=k at *;have J:0<=k*R:=Int.mul_nonneg q0 (by omega)
   have q4:k+1-1=k:=by omega
   have v1:=Wr (k*R);have h:0<=(k+1)*(s+P+(s+P-k*R)):=Int.mul_nonneg (by omega) (by omega);have K:(k+1)*(s+P+(s+P-k*R))<=6001*12000:=Int.mul_le_mul (by omega) (by omega) (by omega) (by omega);have v2:=Wr ((k+1)*(s+P+(s+P-k*R)))
   have y:Hd (((k+1)*(s+P+(s+P-k*R))).tdiv 2=bk R (s+P)):=by
    show _=_
    rw[Int.tdiv_eq_ediv_of_nonneg h];exact hk
   have j:((k+1)*(s+P+(s+P-k*R))).tdiv 2<=100000000/\0<=((k+1)*(s+P+(s+P-k*R))).tdiv 2:=by
    rw[Int.tdiv_eq_ediv_of_nonneg h];omega
   obtain⟨w20,w21⟩:=j;clear hk q4
   go_enter func195,ntmps195
   go_wp2;go_ret;exact⟨by rw[<-y.o];rfl,rfl⟩
def B6(w:V6)(B:Nat)(L H N P M R:Int):Prop:=(V2 w B 0 L/\V2 w B 1 H/\V2 w B 2 N/\V2 w B 3 P/\V2 w B 4 M/\V2 w B 5 R)
theorem Z4{p:Addr}{v:Value}(y:Bw w w')(h:w.cell? p=some v):w'.cell? p=some v:=by
 rw[y.cell (World.block_lt_of_cell? w p h)];exact h
theorem B6.lq(h:B6 w B L H N P M R)(y:Bw w w'):B6 w' B L H N P M R:=
 ⟨Z4 y h.1,Z4 y h.2.1,Z4 y h.2.2.1,Z4 y h.2.2.2.1,Z4 y h.2.2.2.2.1,Z4 y h.2.2.2.2.2⟩
theorem B6.new(w:V6)(L H N P M R:Int)(t:TypeId):B6 (w.alloc (.cells #[Vi L,Vi H,Vi N,Vi P,Vi M,Vi R] t)) w.heap.size L H N P M R:=by
 refine⟨?_,?_,?_,?_,?_,?_⟩<;>simp[go_sem]
def GB(h w:V6)(L H N P M R:Int):Prop:=B6 w h.heap.size L H N P M R/\Bw h w
theorem GB.lq(h:GB w0 w L H N P M R)(y:Bw w w'):GB w0 w' L H N P M R:=⟨h.1.lq y,Zc h.2 y⟩
theorem GB.new(w:V6)(L H N P M R:Int):GB w (w.alloc (.cells #[Vi L,Vi H,Vi N,Vi P,Vi M,Vi R] 220)) L H N P M R:=⟨B6.new w _ _ _ _ _ _ _,Zb _ _⟩
theorem X1{u u':V6}(y:Bw u u')(h:(V0 u w 0 L/\V0 u w 1 H/\V0 u w 2 N/\V0 u w 3 P/\V0 u w 4 M/\V0 u w 5 R)/\Bw w u):(V0 u' w 0 L/\V0 u' w 1 H/\V0 u' w 2 N/\V0 u' w 3 P/\V0 u' w 4 M/\V0 u' w 5 R)/\Bw w u':=⟨B6.lq h.1 y,Zc h.2 y⟩
theorem Jf5(L H N P M R:Int):grB L H N P M R=(A1 L (-100000) 100000&&A1 H (-100000) 100000&&A1 N 0 1000&&A1 P 0 2000&&A1 M 1 4000&&A1 R 1 M):=rfl
theorem LI(L H N P M R:Int)(w:V6):
 Va 194 #[.agg #[Vi L,Vi H,Vi N,Vi P,Vi M,Vi R]] w (Rt w (.bool (grB L H N P M R))):=by
 have h:=Ys L (-100000) 100000;have y:=Ys H (-100000) 100000;have f3:=Ys N 0 1000;have j:=Ys P 0 2000;have m:=Ys M 1 4000;have e:=Ys R 1 M;rw[Jf5];generalize A1 L (-100000) 100000=x1 at *;generalize A1 H (-100000) 100000=x2 at *;generalize A1 N 0 1000=x3 at *;generalize A1 P 0 2000=x4 at *;generalize A1 M 1 4000=x5 at *;generalize A1 R 1 M=x6 at*
 rcases(show(x1=false)\/(x1=true/\x2=false)\/(x1=true/\x2=true/\x3=false)\/(x1=true/\x2=true/\x3=true/\x4=false)\/(x1=true/\x2=true/\x3=true/\x4=true/\x5=false)\/(x1=true/\x2=true/\x3=true/\x4=true/\x5=true/\x6=false)\/(x1=true/\x2=true/\x3=true/\x4=true/\x5=true/\x6=true) by cases x1<;>cases x2<;>cases x3<;>cases x4<;>cases x5<;>cases x6<;>simp) with rfl|⟨rfl,rfl⟩|⟨rfl,rfl,rfl⟩|⟨rfl,rfl,rfl,rfl⟩|⟨rfl,rfl,rfl,rfl,rfl⟩|⟨rfl,rfl,rfl,rfl,rfl,rfl⟩|⟨rfl,rfl,rfl,rfl,rfl,rfl⟩
 all_goals
  go_enter func194,ntmps194
  go_wp2_with (first|(go_at_call_of 55 R;refine Sm (e _) ?_)|(go_at_call_of 55 M;refine Sm (m _) ?_)|(go_at_call_of 55 P;refine Sm (j _) ?_)|(go_at_call_of 55 N;refine Sm (f3 _) ?_)|(go_at_call_of 55 H;refine Sm (y _) ?_)|(go_at_call_of 55 L;refine Sm (h _) ?_));go_ret;exact⟨rfl,by repeat (first|exact Zb _ _|refine Zc ?_ Vc)⟩
theorem Ziy(L H N P M R:Int)(w:V6):
 Va 152 #[.agg #[Vi L,Vi H,Vi N,Vi P,Vi M,Vi R]] w (Rt w (A8 (grE L H N P M R))):=by
 have hc:=LI L H N P M R;have y:=Za (GB.new w L H N P M R);have m:grE L H N P M R=if grB L H N P M R then(if gfB L H N P M R then 0 else 3) else 1:=rfl
 by_cases hg:grB L H N P M R=true
 . rw[hg] at hc m;obtain⟨I,O,h0,h1,n0,n1,C,E,m0,m1,r0,r1⟩:=DK hg
   by_cases c1:P<=M
   . by_cases c2:P<=R
     . have hd:=fun w=>(JE L H N P M R M C E r0 (by omega) (by omega) w).mono (fun e w' h=>(⟨h.1,by rw[h.2];exact Zb _ _⟩:e=_/\Bw w w'));have hk:=S4 (R:=R) (f:=M+P) (by omega) (by omega);have U:=Ut R (M+P)
       have J:gfB L H N P M R=decide (2*(N+bk R (M+P))<=H-L):=by unfold gfB;rw[decide_eq_true c1,decide_eq_true c2];rfl
       generalize bk R (M+P)=k at *;have v1:=Wr (N+k);have v2:=Wr (2*(N+k));have A:=Wr (H-L)
       by_cases c3:2*(N+k)<=H-L
       . have Y:Hd (grE L H N P M R=0):=by show _=_;rw[m,J,decide_eq_true c3];rfl
         have d3:decide (H-L<2*(N+k))=false:=decide_eq_false (by omega);clear m J hg
         go_enter func152,ntmps152
         go_upto_region 5 with(go_at_call 194;refine Sb (hc _) fun j ha=>?_;have y:=Za (y.o.lq ha);obtain⟨⟨q0,X,Q,G,q4,T⟩,_⟩:=y.o;clear ha);obtain⟨⟨q0,X,Q,G,q4,T⟩,_⟩:=y.o;have K:(V0 j w 0 L/\V0 j w 1 H/\V0 j w 2 N/\V0 j w 3 P/\V0 j w 4 M/\V0 j w 5 R)/\Bw w j:=y.o;have Z:=Za K
         go_region_held3 (fun u=>(V0 u w 0 L/\V0 u w 1 H/\V0 u w 2 N/\V0 u w 3 P/\V0 u w 4 M/\V0 u w 5 R)/\Bw w u)
          (first
           |(with_reducible assumption)
           |(with_reducible apply X1;with_reducible assumption;with_reducible assumption)
           |(refine X1 ?_ Z.o;exact Vb))
          (first
           |(go_at_call 195;refine Sb (hd _) fun w' F=>?_))
         all_goals
          rename_i hH
          have D:=Za hH.2;clear hH;go_wp2_with fail;go_ret;exact⟨by rw[Y.o];rfl,D.o⟩
       . have Y:Hd (grE L H N P M R=3):=by show _=_;rw[m,J,decide_eq_false c3];rfl
         have d3:decide (H-L<2*(N+k))=true:=decide_eq_true (by omega);clear m J hg
         go_enter func152,ntmps152
         go_upto_region 5 with(go_at_call 194;refine Sb (hc _) fun j ha=>?_;have y:=Za (y.o.lq ha);obtain⟨⟨q0,X,Q,G,q4,T⟩,_⟩:=y.o;clear ha);obtain⟨⟨q0,X,Q,G,q4,T⟩,_⟩:=y.o;have K:(V0 j w 0 L/\V0 j w 1 H/\V0 j w 2 N/\V0 j w 3 P/\V0 j w 4 M/\V0 j w 5 R)/\Bw w j:=y.o;have Z:=Za K
         go_region_held3 (fun u=>(V0 u w 0 L/\V0 u w 1 H/\V0 u w 2 N/\V0 u w 3 P/\V0 u w 4 M/\V0 u w 5 R)/\Bw w u)
          (first
           |(with_reducible assumption)
           |(with_reducible apply X1;with_reducible assumption;with_reducible assumption)
           |(refine X1 ?_ Z.o;exact Vb))
          (first
           |(go_at_call 195;refine Sb (hd _) fun w' F=>?_))
         all_goals
          rename_i hH
          have D:=Za hH.2;clear hH;go_wp2_with fail;go_ret;exact⟨by rw[Y.o];rfl,D.o⟩
     . have Y:Hd (grE L H N P M R=3):=by show _=_;rw[m];unfold gfB;rw[decide_eq_false c2];simp
       clear m hg
       go_enter func152,ntmps152
       go_wp2_with (go_at_call 194;refine Sb (hc _) fun j ha=>?_;have y:=Za (y.o.lq ha);obtain⟨⟨q0,X,Q,G,q4,T⟩,_⟩:=y.o;clear ha);go_ret;exact⟨by rw[Y.o];rfl,y.o.2⟩
   . have Y:Hd (grE L H N P M R=3):=by show _=_;rw[m];unfold gfB;rw[decide_eq_false c1];simp
     clear m hg
     go_enter func152,ntmps152
     go_wp2_with (go_at_call 194;refine Sb (hc _) fun j ha=>?_;have y:=Za (y.o.lq ha);obtain⟨⟨q0,X,Q,G,q4,T⟩,_⟩:=y.o;clear ha);go_ret;exact⟨by rw[Y.o];rfl,y.o.2⟩
 . have hg':grB L H N P M R=false:=by simpa using hg
   rw[hg'] at hc m;have Y:Hd (grE L H N P M R=1):=m;clear m hg hg'
   go_enter func152,ntmps152
   go_wp2_with (go_at_call 194;refine Sb (hc _) fun j ha=>?_;have y:=Za (y.o.lq ha);obtain⟨⟨q0,X,Q,G,q4,T⟩,_⟩:=y.o;clear ha);go_ret;exact⟨by rw[Y.o];rfl,y.o.2⟩
theorem S6(L H N P M R:Int)(h:grB L H N P M R=false)(w:V6):
 Va 126 #[.agg #[Vi L,Vi H,Vi N,Vi P,Vi M,Vi R]] w (Rt w (Vi 1)):=by
 have y:=Zy L (-100000) 100000;have j:=Zy H (-100000) 100000;have f3:=Zy N 0 1000;have m:=Zy P 0 2000;have e:=Zy M 1 4000;have Z:=Zy R 1 M;rw[Jf5] at h;generalize A1 L (-100000) 100000=x1 at *;generalize A1 H (-100000) 100000=x2 at *;generalize A1 N 0 1000=x3 at *;generalize A1 P 0 2000=x4 at *;generalize A1 M 1 4000=x5 at *;generalize A1 R 1 M=x6 at*
 rcases(show(x1=false)\/(x1=true/\x2=false)\/(x1=true/\x2=true/\x3=false)\/(x1=true/\x2=true/\x3=true/\x4=false)\/(x1=true/\x2=true/\x3=true/\x4=true/\x5=false)\/(x1=true/\x2=true/\x3=true/\x4=true/\x5=true/\x6=false) by cases x1<;>cases x2<;>cases x3<;>cases x4<;>cases x5<;>cases x6<;>simp_all) with rfl|⟨rfl,rfl⟩|⟨rfl,rfl,rfl⟩|⟨rfl,rfl,rfl,rfl⟩|⟨rfl,rfl,rfl,rfl,rfl⟩|⟨rfl,rfl,rfl,rfl,rfl,rfl⟩
 all_goals
  clear h
  go_enter func126,ntmps126
  go_wp2_with (first|(go_at_call_of 22 R;refine Sm (Z _) ?_)|(go_at_call_of 22 M;refine Sm (e _) ?_)|(go_at_call_of 22 P;refine Sm (m _) ?_)|(go_at_call_of 22 N;refine Sm (f3 _) ?_)|(go_at_call_of 22 H;refine Sm (j _) ?_)|(go_at_call_of 22 L;refine Sm (y _) ?_));go_ret;exact⟨rfl,Zb _ _⟩
theorem OF(L H N P M R:Int)(K:grB L H N P M R=true)(w:V6):
 Va 126 #[.agg #[Vi L,Vi H,Vi N,Vi P,Vi M,Vi R]] w (Rt w (Vi (grE L H N P M R))):=by
 have y:grE L H N P M R=if gfB L H N P M R then 0 else 3:=by unfold grE;rw[if_pos K]
 obtain⟨B,W,h0,h1,n0,n1,U,A,m0,m1,r0,r1⟩:=DK K;have Y:=Zy L (-100000) 100000;have X:=Zy H (-100000) 100000;have f3:=Zy N 0 1000;have Q:=Zy P 0 2000;have G:=Zy M 1 4000;have T:=Zy R 1 M;rw[Xs B W] at Y;rw[Xs h0 h1] at X;rw[Xs n0 n1] at f3;rw[Xs U A] at Q;rw[Xs m0 m1] at G;rw[Xs r0 r1] at T;have j:=Za (GB.new w L H N P M R);clear K
 by_cases c1:P<=M
 . by_cases c2:P<=R
   . have ha:=fun w=>(G6 L H N P M R M U A r0 (by omega) (by omega) (by omega) w).mono (fun e w' h=>(⟨h.1,by rw[h.2];exact Zb _ _⟩:e=_/\Bw w w'));have hk:=S4 (R:=R) (f:=M+P) (by omega) (by omega);have hc:=Ut R (M+P)
     have J:gfB L H N P M R=decide (2*(N+bk R (M+P))<=H-L):=by unfold gfB;rw[decide_eq_true c1,decide_eq_true c2];rfl
     generalize bk R (M+P)=k at *;have v1:=Wr (N+k);have v2:=Wr (2*(N+k));have v3:=Wr (H-L);have d1:decide (M<P)=false:=decide_eq_false (by omega);have d2:decide (R<P)=false:=decide_eq_false (by omega)
     by_cases c3:2*(N+k)<=H-L
     . have m:Hd (grE L H N P M R=0):=by show _=_;rw[y,J,decide_eq_true c3];rfl
       have d3:decide (H-L<2*(N+k))=false:=decide_eq_false (by omega);clear y J
       go_enter func126,ntmps126
       go_upto_region 4 with(first|(go_at_call_of 22 R;refine Sm (T _) ?_)|(go_at_call_of 22 M;refine Sm (G _) ?_)|(go_at_call_of 22 P;refine Sm (Q _) ?_)|(go_at_call_of 22 N;refine Sm (f3 _) ?_)|(go_at_call_of 22 H;refine Sm (X _) ?_)|(go_at_call_of 22 L;refine Sm (Y _) ?_));generalize w.alloc (.cells #[Vi L,Vi H,Vi N,Vi P,Vi M,Vi R] 220)=w1 at *;obtain⟨⟨q0,D,C,E,q4,F⟩,_⟩:=j.o;have I:(V0 w1 w 0 L/\V0 w1 w 1 H/\V0 w1 w 2 N/\V0 w1 w 3 P/\V0 w1 w 4 M/\V0 w1 w 5 R)/\Bw w w1:=j.o;have Z:=Za I
       go_region_held3 (fun u=>(V0 u w 0 L/\V0 u w 1 H/\V0 u w 2 N/\V0 u w 3 P/\V0 u w 4 M/\V0 u w 5 R)/\Bw w u)
        (first
         |(with_reducible assumption)
         |(with_reducible apply X1;with_reducible assumption;with_reducible assumption)
         |(refine X1 ?_ Z.o;exact Vb))
        (first
         |(go_at_call 180;refine Sb (ha _) fun w' hb=>?_)
         |(go_at_call 4;refine Sm (Ur _ _ _) ?_))
       all_goals
        rename_i hH
        have O:=Za hH.2;clear hH;go_wp2_with fail;go_ret;exact⟨by rw[m.o];rfl,O.o⟩
     . have m:Hd (grE L H N P M R=3):=by show _=_;rw[y,J,decide_eq_false c3];rfl
       have d3:decide (H-L<2*(N+k))=true:=decide_eq_true (by omega);clear y J
       go_enter func126,ntmps126
       go_upto_region 4 with(first|(go_at_call_of 22 R;refine Sm (T _) ?_)|(go_at_call_of 22 M;refine Sm (G _) ?_)|(go_at_call_of 22 P;refine Sm (Q _) ?_)|(go_at_call_of 22 N;refine Sm (f3 _) ?_)|(go_at_call_of 22 H;refine Sm (X _) ?_)|(go_at_call_of 22 L;refine Sm (Y _) ?_));generalize w.alloc (.cells #[Vi L,Vi H,Vi N,Vi P,Vi M,Vi R] 220)=w1 at *;obtain⟨⟨q0,D,C,E,q4,F⟩,_⟩:=j.o;have I:(V0 w1 w 0 L/\V0 w1 w 1 H/\V0 w1 w 2 N/\V0 w1 w 3 P/\V0 w1 w 4 M/\V0 w1 w 5 R)/\Bw w w1:=j.o;have Z:=Za I
       go_region_held3 (fun u=>(V0 u w 0 L/\V0 u w 1 H/\V0 u w 2 N/\V0 u w 3 P/\V0 u w 4 M/\V0 u w 5 R)/\Bw w u)
        (first
         |(with_reducible assumption)
         |(with_reducible apply X1;with_reducible assumption;with_reducible assumption)
         |(refine X1 ?_ Z.o;exact Vb))
        (first
         |(go_at_call 180;refine Sb (ha _) fun w' hb=>?_)
         |(go_at_call 4;refine Sm (Ur _ _ _) ?_))
       all_goals
        rename_i hH
        have O:=Za hH.2;clear hH;go_wp2_with fail;go_ret;exact⟨by rw[m.o];rfl,O.o⟩
   . have m:Hd (grE L H N P M R=3):=by show _=_;rw[y];unfold gfB;rw[decide_eq_false c2];simp
     have d1:decide (M<P)=false:=decide_eq_false (by omega);have d2:decide (R<P)=true:=decide_eq_true (by omega);clear y
     go_enter func126,ntmps126
     go_upto_region 4 with(first|(go_at_call_of 22 R;refine Sm (T _) ?_)|(go_at_call_of 22 M;refine Sm (G _) ?_)|(go_at_call_of 22 P;refine Sm (Q _) ?_)|(go_at_call_of 22 N;refine Sm (f3 _) ?_)|(go_at_call_of 22 H;refine Sm (X _) ?_)|(go_at_call_of 22 L;refine Sm (Y _) ?_));generalize w.alloc (.cells #[Vi L,Vi H,Vi N,Vi P,Vi M,Vi R] 220)=w1 at *;obtain⟨⟨q0,D,C,E,q4,F⟩,_⟩:=j.o;go_quiet ((go_at_call 4;exact Calls.quiet_of_same (Ur _ _ _)));go_wp2;go_ret;exact⟨by rw[m.o];rfl,Zc j.o.2 (below_drewN (Below.refl _ _) _)⟩
 . have m:Hd (grE L H N P M R=3):=by show _=_;rw[y];unfold gfB;rw[decide_eq_false c1];simp
   have d1:decide (M<P)=true:=decide_eq_true (by omega);clear y
   go_enter func126,ntmps126
   go_upto_region 4 with(first|(go_at_call_of 22 R;refine Sm (T _) ?_)|(go_at_call_of 22 M;refine Sm (G _) ?_)|(go_at_call_of 22 P;refine Sm (Q _) ?_)|(go_at_call_of 22 N;refine Sm (f3 _) ?_)|(go_at_call_of 22 H;refine Sm (X _) ?_)|(go_at_call_of 22 L;refine Sm (Y _) ?_));generalize w.alloc (.cells #[Vi L,Vi H,Vi N,Vi P,Vi M,Vi R] 220)=w1 at *;obtain⟨⟨q0,D,C,E,q4,F⟩,_⟩:=j.o;go_quiet ((go_at_call 4;exact Calls.quiet_of_same (Ur _ _ _)));go_wp2;go_ret;exact⟨by rw[m.o];rfl,Zc j.o.2 (below_drewN (Below.refl _ _) _)⟩
theorem OG(L H N P M R:Int)(w:V6):
 Va 126 #[.agg #[Vi L,Vi H,Vi N,Vi P,Vi M,Vi R]] w (Rt w (Vi (grE L H N P M R))):=by
 by_cases hg:grB L H N P M R=true
 . exact OF L H N P M R hg w
 . have hg':grB L H N P M R=false:=by simpa using hg
   rw[show grE L H N P M R=1 by unfold grE;rw[if_neg hg]];exact S6 L H N P M R hg' w
def gmE(L H N P M R s:Int):Int:=if grE L H N P M R=0 then(if A1 s (-M) M then 0 else 1) else grE L H N P M R
theorem Yy(x lo hi:Int)(w:V6):
 Va 55 #[Vi x,Vi lo,Vi hi] w (Rt w (.bool (A1 x lo hi))):=
 (Ys x lo hi w).mono fun e w' h=>⟨h.1,by rw[h.2];exact Zb _ _⟩
theorem LJ(L H N P M R s:Int)(w:V6):
 Va 344 #[.agg #[Vi L,Vi H,Vi N,Vi P,Vi M,Vi R],Vi s] w (Rt w (A8 (gmE L H N P M R s))):=by
 have hc:=Ziy L H N P M R;have h:=Za (GB.new w L H N P M R)
 by_cases he:grE L H N P M R=0
 . have y:gmE L H N P M R s=if A1 s (-M) M then 0 else 1:=by unfold gmE;rw[if_pos he]
   rw[he,Z0] at hc;obtain⟨⟨J,K,h0,h1,n0,n1,D,C,m0,m1,r0,r1⟩,E,F,room⟩:=OD he;have Q:=Yy s (-M) M;clear he room;generalize A1 s (-M) M=x1 at*
   cases x1
   . have X:Hd (gmE L H N P M R s=1):=y;clear y
     go_enter func344,ntmps344
     go_wp2_with (first|(go_at_call 152;refine Sb (hc _) fun G ha=>?_;have h:=Za (h.o.lq ha);obtain⟨⟨q0,m,e,Z,q4,Y⟩,_⟩:=h.o;clear ha)|(go_at_call 55;refine Sb (Q _) fun T j=>?_;have h:=Za (h.o.lq j);obtain⟨⟨q0,m,e,Z,q4,Y⟩,_⟩:=h.o;clear j));go_ret;exact⟨by rw[X.o];rfl,h.o.2⟩
   . have X:Hd (gmE L H N P M R s=0):=y;clear y
     go_enter func344,ntmps344
     go_wp2_with (first|(go_at_call 152;refine Sb (hc _) fun G ha=>?_;have h:=Za (h.o.lq ha);obtain⟨⟨q0,m,e,Z,q4,Y⟩,_⟩:=h.o;clear ha)|(go_at_call 55;refine Sb (Q _) fun T j=>?_;have h:=Za (h.o.lq j);obtain⟨⟨q0,m,e,Z,q4,Y⟩,_⟩:=h.o;clear j));go_ret;exact⟨by rw[X.o];rfl,h.o.2⟩
 . have y:gmE L H N P M R s=grE L H N P M R:=by unfold gmE;rw[if_neg he]
   rw[y];rw[Zv he] at hc|-;clear y;generalize grE L H N P M R=x at *;clear he
   go_enter func344,ntmps344
   go_wp2_with (go_at_call 152;refine Sb (hc _) fun G ha=>?_;have h:=Za (h.o.lq ha);obtain⟨⟨q0,m,e,Z,q4,Y⟩,_⟩:=h.o;clear ha);go_ret;exact⟨rfl,h.o.2⟩
def B2(w:V6)(B:Nat)(a b:Value):Prop:=Kc w B 0 a/\Kc w B 1 b
def B3(w:V6)(B:Nat)(a b c:Value):Prop:=Kc w B 0 a/\Kc w B 1 b/\Kc w B 2 c
def B4(w:V6)(B:Nat)(a b c d:Value):Prop:=Kc w B 0 a/\Kc w B 1 b/\Kc w B 2 c/\Kc w B 3 d
theorem B2.lq{b:Value}(h:B2 w B a b)(y:Bw w w'):B2 w' B a b:=⟨cell_later y h.1,cell_later y h.2⟩
theorem B3.lq{b:Value}(h:B3 w B a b c)(y:Bw w w'):B3 w' B a b c:=⟨cell_later y h.1,cell_later y h.2.1,cell_later y h.2.2⟩
theorem B4.lq{b d:Value}(h:B4 w B a b c d)(y:Bw w w'):B4 w' B a b c d:=⟨cell_later y h.1,cell_later y h.2.1,cell_later y h.2.2.1,cell_later y h.2.2.2⟩
theorem B2.new(w:V6)(a b:Value)(t:TypeId):B2 (w.alloc (.cells #[a,b] t)) w.heap.size a b:=by refine⟨?_,?_⟩<;>simp[go_sem]
theorem B3.new(w:V6)(a b c:Value)(t:TypeId):B3 (w.alloc (.cells #[a,b,c] t)) w.heap.size a b c:=by refine⟨?_,?_,?_⟩<;>simp[go_sem]
theorem B4.new(w:V6)(a b c d:Value)(t:TypeId):B4 (w.alloc (.cells #[a,b,c,d] t)) w.heap.size a b c d:=by refine⟨?_,?_,?_,?_⟩<;>simp[go_sem]
theorem size_alloc(w:V6)(o:Obj):(w.alloc o).heap.size=w.heap.size+1:=by simp[go_sem]
def RS(h w:V6)(T R S C i b:Int)(o:Bool):Prop:=
 B4 w h.heap.size (Vi T) (Vi R) (Vi S) (Vi C)/\B3 w (h.heap.size+1) (Vi i) (Vi b) (.bool o)/\Bw h w
theorem RS.lq(h:RS w0 w T R S C i b o)(y:Bw w w'):RS w0 w' T R S C i b o:=⟨h.1.lq y,h.2.1.lq y,Zc h.2.2 y⟩
theorem RS.new(w:V6)(T R S C i b:Int)(o:Bool):RS w ((w.alloc (.cells #[Vi T,Vi R,Vi S,Vi C] 172)).alloc (.cells #[Vi i,Vi b,.bool o] 169)) T R S C i b o:=by
 refine⟨(B4.new w _ _ _ _ _).lq Vc,?_,Zc Vc Vc⟩;rw[<-size_alloc w (.cells #[Vi T,Vi R,Vi S,Vi C] 172)];exact B3.new _ _ _ _ _
def svB(T C i b:Int)(o:Bool):Bool:=A1 i (-T) T&&A1 b 0 C&&(!o||i==0)&&(o||decide (b<C))
def svE(T R S C i b:Int)(o:Bool):Int:=if arE T R S C=0 then(if svB T C i b o then 0 else 3) else arE T R S C
theorem Ui(h:svE T R S C i b o=0):arB T R S C=true/\svB T C i b o=true:=by
 unfold svE at h
 split at h
 . split at h
   . exact⟨Us (by assumption),by assumption⟩
   . omega
 . exact absurd h (by assumption)
theorem JX(h:arB T R S C=true)(y:svB T C i b o=true):svE T R S C i b o=0:=by
 unfold svE arE;rw[if_pos h,if_pos rfl,if_pos y]
theorem Y2(h:svB T C i b o=true):(-T<=i/\i<=T)/\(0<=b/\b<=C)/\(o=true->i=0)/\(o=false->b<C):=by
 simp only[svB,Bool.and_eq_true,Bool.or_eq_true,Bool.not_eq_true',beq_iff_eq,decide_eq_true_eq] at h;obtain⟨⟨⟨h1,h2⟩,h3⟩,h4⟩:=h;refine⟨Zw h1,Zw h2,?_,?_⟩
 . rintro rfl;simpa using h3
 . rintro rfl;simpa using h4
theorem Mr(T R S C i b:Int)(o:Bool)(w:V6):
 Va 283 #[.agg #[Vi T,Vi R,Vi S,Vi C],.agg #[Vi i,Vi b,.bool o]] w (Rt w (A8 (svE T R S C i b o))):=by
 have X:=M3 T R S C;have y:=Za (RS.new w T R S C i b o)
 by_cases e1:arE T R S C=0
 . rw[e1,Z0] at X;have Q:=Yy i (-T) T;have J:=Yy b 0 C
   have Z:svE T R S C i b o=if svB T C i b o then 0 else 3:=by unfold svE;rw[if_pos e1]
   obtain⟨⟨P,D⟩,_,_,c0,c1⟩:=Yh (Us e1);have ha:A1 b 0 C=true->b<=C:=fun h=>(Zw h).2
   unfold svB at Z
   clear e1;generalize A1 i (-T) T=x1 at *;generalize A1 b 0 C=x2 at*
   cases x1
   . have Y:Hd (svE T R S C i b o=3):=Z;clear Z ha
     go_enter func283,ntmps283
     go_wp2_with (first
      |(go_at_call 149;refine Sb (X _) fun G j=>?_;have y:=Za (y.o.lq j);obtain⟨⟨r0,r1,r2,r3⟩,⟨m,e,H⟩,_⟩:=y.o;clear j)
      |(go_at_call_of 55 i;refine Sb (Q _) fun K ha=>?_;have y:=Za (y.o.lq ha);obtain⟨⟨r0,r1,r2,r3⟩,⟨m,e,H⟩,_⟩:=y.o;clear ha))
     go_ret;exact⟨by rw[Y.o];rfl,y.o.2.2⟩
   . cases x2
     . have Y:Hd (svE T R S C i b o=3):=Z;clear Z ha
       go_enter func283,ntmps283
       go_wp2_with (first
        |(go_at_call 149;refine Sb (X _) fun G j=>?_;have y:=Za (y.o.lq j);obtain⟨⟨r0,r1,r2,r3⟩,⟨m,e,H⟩,_⟩:=y.o;clear j)
        |(go_at_call_of 55 i;refine Sb (Q _) fun K ha=>?_;have y:=Za (y.o.lq ha);obtain⟨⟨r0,r1,r2,r3⟩,⟨m,e,H⟩,_⟩:=y.o;clear ha)
        |(go_at_call_of 55 b;refine Sb (J _) fun M hc=>?_;have y:=Za (y.o.lq hc);obtain⟨⟨r0,r1,r2,r3⟩,⟨m,e,H⟩,_⟩:=y.o;clear hc))
       go_ret;exact⟨by rw[Y.o];rfl,y.o.2.2⟩
     . have hd:=ha rfl;clear ha
       cases o
       . by_cases hlt:b<C
         . have Y:Hd (svE T R S C i b false=0):=by show svE T R S C i b false=0;rw[Z];simp[hlt]
           have N:(b==C)=false:=by simp;omega
           clear Z
           go_enter func283,ntmps283
           go_wp2_with (first
            |(go_at_call 149;refine Sb (X _) fun G j=>?_;have y:=Za (y.o.lq j);obtain⟨⟨r0,r1,r2,r3⟩,⟨m,e,H⟩,_⟩:=y.o;clear j)
            |(go_at_call_of 55 i;refine Sb (Q _) fun K ha=>?_;have y:=Za (y.o.lq ha);obtain⟨⟨r0,r1,r2,r3⟩,⟨m,e,H⟩,_⟩:=y.o;clear ha)
            |(go_at_call_of 55 b;refine Sb (J _) fun M hc=>?_;have y:=Za (y.o.lq hc);obtain⟨⟨r0,r1,r2,r3⟩,⟨m,e,H⟩,_⟩:=y.o;clear hc))
           go_ret;exact⟨by rw[Y.o];rfl,y.o.2.2⟩
         . have Y:Hd (svE T R S C i b false=3):=by show svE T R S C i b false=3;rw[Z];simp[hlt]
           have N:(b==C)=true:=by simp;omega
           clear Z
           go_enter func283,ntmps283
           go_wp2_with (first
            |(go_at_call 149;refine Sb (X _) fun G j=>?_;have y:=Za (y.o.lq j);obtain⟨⟨r0,r1,r2,r3⟩,⟨m,e,H⟩,_⟩:=y.o;clear j)
            |(go_at_call_of 55 i;refine Sb (Q _) fun K ha=>?_;have y:=Za (y.o.lq ha);obtain⟨⟨r0,r1,r2,r3⟩,⟨m,e,H⟩,_⟩:=y.o;clear ha)
            |(go_at_call_of 55 b;refine Sb (J _) fun M hc=>?_;have y:=Za (y.o.lq hc);obtain⟨⟨r0,r1,r2,r3⟩,⟨m,e,H⟩,_⟩:=y.o;clear hc))
           go_ret;exact⟨by rw[Y.o];rfl,y.o.2.2⟩
       . by_cases hi:i=0
         . have Y:Hd (svE T R S C i b true=0):=by show svE T R S C i b true=0;rw[Z];simp[hi]
           have N:(i != 0)=false:=by simp[hi]
           clear Z hi
           go_enter func283,ntmps283
           go_wp2_with (first
            |(go_at_call 149;refine Sb (X _) fun G j=>?_;have y:=Za (y.o.lq j);obtain⟨⟨r0,r1,r2,r3⟩,⟨m,e,H⟩,_⟩:=y.o;clear j)
            |(go_at_call_of 55 i;refine Sb (Q _) fun K ha=>?_;have y:=Za (y.o.lq ha);obtain⟨⟨r0,r1,r2,r3⟩,⟨m,e,H⟩,_⟩:=y.o;clear ha)
            |(go_at_call_of 55 b;refine Sb (J _) fun M hc=>?_;have y:=Za (y.o.lq hc);obtain⟨⟨r0,r1,r2,r3⟩,⟨m,e,H⟩,_⟩:=y.o;clear hc))
           go_ret;exact⟨by rw[Y.o];rfl,y.o.2.2⟩
         . have Y:Hd (svE T R S C i b true=3):=by show svE T R S C i b true=3;rw[Z];simp[hi]
           have N:(i != 0)=true:=by simpa using hi
           clear Z hi
           go_enter func283,ntmps283
           go_wp2_with (first
            |(go_at_call 149;refine Sb (X _) fun G j=>?_;have y:=Za (y.o.lq j);obtain⟨⟨r0,r1,r2,r3⟩,⟨m,e,H⟩,_⟩:=y.o;clear j)
            |(go_at_call_of 55 i;refine Sb (Q _) fun K ha=>?_;have y:=Za (y.o.lq ha);obtain⟨⟨r0,r1,r2,r3⟩,⟨m,e,H⟩,_⟩:=y.o;clear ha)
            |(go_at_call_of 55 b;refine Sb (J _) fun M hc=>?_;have y:=Za (y.o.lq hc);obtain⟨⟨r0,r1,r2,r3⟩,⟨m,e,H⟩,_⟩:=y.o;clear hc))
           go_ret;exact⟨by rw[Y.o];rfl,y.o.2.2⟩
 . have Y:Hd (svE T R S C i b o=1):=by show svE T R S C i b o=1;unfold svE;rw[if_neg e1,Jfu e1]
   rw[Jfu e1,Zv (by decide)] at X;clear e1
   go_enter func283,ntmps283
   go_wp2_with (first
    |(go_at_call 149;refine Sb (X _) fun G j=>?_;have y:=Za (y.o.lq j);obtain⟨⟨r0,r1,r2,r3⟩,⟨m,e,H⟩,_⟩:=y.o;clear j))
   go_ret;exact⟨by rw[Y.o];rfl,y.o.2.2⟩
def mnA(x y:Int):Int:=min x y
def mxA(x y:Int):Int:=max x y
theorem DT(y:Array TypeId)(t:TypeId)(p q:Int)(w:V6):(Builtin.min_ y t #[Vi p,Vi q]).run prog w=.ok (Vi (mnA p q)) w:=by
 unfold mnA;by_cases h:q<p
 . rw[Int.min_eq_right (by omega)];simp[Builtin.min_,Builtin.min2,h]
 . rw[Int.min_eq_left (by omega)];simp[Builtin.min_,Builtin.min2,h]
theorem DU(y:Array TypeId)(t:TypeId)(p q:Int)(w:V6):(Builtin.max_ y t #[Vi p,Vi q]).run prog w=.ok (Vi (mxA p q)) w:=by
 unfold mxA;by_cases h:p<q
 . rw[Int.max_eq_right (by omega)];simp[Builtin.max_,Builtin.max2,h]
 . rw[Int.max_eq_left (by omega)];simp[Builtin.max_,Builtin.max2,h]
def loR(T R i:Int)(o:Bool):Int:=if o then 0 else mxA (i-R) (-T)
def hiR(T R i:Int)(o:Bool):Int:=if o then 0 else mnA (i+R) T
theorem SV(T R S C i b:Int)(o:Bool)(y:arB T R S C=true)(hs:svB T C i b o=true)(w:V6):
 Va 235 #[.agg #[Vi T,Vi R,Vi S,Vi C],.agg #[Vi i,Vi b,.bool o]] w (Rt w (.agg #[Vi (loR T R i o),Vi (hiR T R i o)])):=by
 obtain⟨⟨m,e⟩,⟨r0,r1⟩,_,_,_⟩:=Yh y;have H:=(Y2 hs).1.1;have Z:=(Y2 hs).1.2;have Y:=fun h t p q w=>DT h t p q w;have X:=fun h t p q w=>DU h t p q w;have j:=Za (RS.new w T R S C i b o).2.2;clear y hs
 unfold loR hiR
 cases o
 . simp only[Bool.false_eq_true,if_false]
   go_enter func235,ntmps235
   go_wp2;exact bodyPost_ret (v:=.agg #[Vi (mxA (i-R) (-T)),Vi (mnA (i+R) T)]) (by simp[results,results235,go_sem]) rfl ⟨rfl,Zc j.o Vc⟩
 . simp only[if_true]
   go_enter func235,ntmps235
   go_wp2;exact bodyPost_ret (v:=.agg #[Vi 0,Vi 0]) (by simp[results,results235,go_sem]) rfl ⟨rfl,Zc j.o Vc⟩
def FrA(w:V6)(B n:Nat):Prop:=(∀j,j<n->w.frozen? (Ad B j)=false)/\B<w.heap.size
theorem FrA.lq(h:FrA w B n)(y:Bw w w'):FrA w' B n:=
 ⟨fun j m=>(y.frozen (p:=⟨B,j,none⟩) h.2).trans (h.1 j m),Nat.lt_of_lt_of_le h.2 y.size⟩
theorem FrA.new{cs:Array Value}{T:TypeId}:FrA (w.alloc (.cells cs T)) w.heap.size n:=
 ⟨fun j _=>by simp[go_sem],by simp[go_sem]⟩
def RSP(h w:V6)(T R S C i b:Int)(o:Bool):Prop:=RS h w T R S C i b o/\B2 w (h.heap.size+1+1) (Vi 0) (Vi 0)/\FrA w (h.heap.size+1+1) 2
theorem RSP.lq(h:RSP w0 w T R S C i b o)(y:Bw w w'):RSP w0 w' T R S C i b o:=⟨h.1.lq y,h.2.1.lq y,h.2.2.lq y⟩
theorem RSP.new(w:V6)(T R S C i b:Int)(o:Bool):RSP w (((w.alloc (.cells #[Vi T,Vi R,Vi S,Vi C] 172)).alloc (.cells #[Vi i,Vi b,.bool o] 169)).alloc (.cells #[Vi 0,Vi 0] 140)) T R S C i b o:=by
 refine⟨(RS.new w T R S C i b o).lq Vc,?_,?_⟩
 . rw[<-size_alloc w (.cells #[Vi T,Vi R,Vi S,Vi C] 172),<-size_alloc (w.alloc (.cells #[Vi T,Vi R,Vi S,Vi C] 172)) (.cells #[Vi i,Vi b,.bool o] 169)];exact B2.new _ _ _ _
 . rw[<-size_alloc w (.cells #[Vi T,Vi R,Vi S,Vi C] 172),<-size_alloc (w.alloc (.cells #[Vi T,Vi R,Vi S,Vi C] 172)) (.cells #[Vi i,Vi b,.bool o] 169)];exact FrA.new
theorem Jg4(T R S C i b:Int)(o:Bool)(h0:svE T R S C i b o=0)(w:V6):
 Va 348 #[.agg #[Vi T,Vi R,Vi S,Vi C],.agg #[Vi i,Vi b,.bool o]] w (Rt w (.tuple #[.agg #[Vi (loR T R i o),Vi (hiR T R i o)],.nilIface])):=by
 obtain⟨Z,hs⟩:=Ui h0;obtain⟨⟨D,E⟩,⟨r0,r1⟩,_,_,_⟩:=Yh Z;have F:=(Y2 hs).1.1;have I:=(Y2 hs).1.2;have L:=fun j t p q w=>DT j t p q w;have O:=fun j t p q w=>DU j t p q w;have m:=Mr T R S C i b o;rw[h0,Z0] at m;have h:=Za (RSP.new w T R S C i b o);clear Z hs h0
 unfold loR hiR
 cases o
 . simp only[Bool.false_eq_true,if_false]
   go_enter func348,ntmps348
   go_wp2_with (go_at_call 283;refine Sb (m _) fun Y ha=>?_;have h:=Za (h.o.lq ha);obtain⟨⟨⟨q0,X,Q,G⟩,⟨J,K,M⟩,_⟩,⟨e,H⟩,y,_⟩:=h.o;have N:=y 0 (by omega);have P:=y 1 (by omega);clear ha y);exact bodyPost_ret (v:=.tuple #[.agg #[Vi (mxA (i-R) (-T)),Vi (mnA (i+R) T)],.nilIface]) (by simp[results,results348,go_sem,e,H]) rfl ⟨rfl,(h.o.1.2.2.setCell (by simp;omega) _).setCell (by simp;omega) _⟩
 . simp only[if_true]
   go_enter func348,ntmps348
   go_wp2_with (go_at_call 283;refine Sb (m _) fun Y ha=>?_;have h:=Za (h.o.lq ha);obtain⟨⟨⟨q0,X,Q,G⟩,⟨J,K,M⟩,_⟩,⟨e,H⟩,y,_⟩:=h.o;have N:=y 0 (by omega);have P:=y 1 (by omega);clear ha y);exact bodyPost_ret (v:=.tuple #[.agg #[Vi 0,Vi 0],.nilIface]) (by simp[results,results348,go_sem,e,H]) rfl ⟨rfl,(h.o.1.2.2.setCell (by simp;omega) _).setCell (by simp;omega) _⟩
theorem Jdu(T R S C i b:Int)(o:Bool)(h0:svE T R S C i b o≠0)(w:V6):
 Va 348 #[.agg #[Vi T,Vi R,Vi S,Vi C],.agg #[Vi i,Vi b,.bool o]] w (Rt w (.tuple #[.agg #[Vi 0,Vi 0],.iface 22 (Vi (svE T R S C i b o))])):=by
 have ha:=Mr T R S C i b o;rw[Zv h0] at ha;have h:=Za (RSP.new w T R S C i b o);clear h0;generalize svE T R S C i b o=x at*
 go_enter func348,ntmps348
 go_wp2_with (go_at_call 283;refine Sb (ha _) fun H j=>?_;have h:=Za (h.o.lq j);obtain⟨⟨⟨q0,Z,Y,X⟩,⟨Q,G,J⟩,_⟩,⟨m,e⟩,y,_⟩:=h.o;have K:=y 0 (by omega);have M:=y 1 (by omega);clear j y);exact bodyPost_ret (v:=.tuple #[.agg #[Vi 0,Vi 0],.iface 22 (Vi x)]) (by simp[results,results348,go_sem,m,e]) rfl ⟨rfl,(h.o.1.2.2.setCell (by simp;omega) _).setCell (by simp;omega) _⟩
def RSQ(h w:V6)(Q:Nat)(T R S C i b:Int)(o:Bool):Prop:=RS h w T R S C i b o/\FrA w (h.heap.size+1) 3/\B3 w Q (Vi 0) (Vi 0) (.bool false)/\FrA w Q 3
theorem RSQ.lq{Q:Nat}(h:RSQ w0 w Q T R S C i b o)(y:Bw w w'):RSQ w0 w' Q T R S C i b o:=⟨h.1.lq y,h.2.1.lq y,h.2.2.1.lq y,h.2.2.2.lq y⟩
theorem frS(w:V6)(T R S C i b:Int)(o:Bool):FrA ((w.alloc (.cells #[Vi T,Vi R,Vi S,Vi C] 172)).alloc (.cells #[Vi i,Vi b,.bool o] 169)) (w.heap.size+1) 3:=by
 rw[<-size_alloc w (.cells #[Vi T,Vi R,Vi S,Vi C] 172)];exact FrA.new
theorem RSQ.new3(w:V6)(T R S C i b:Int)(o y:Bool)(z:Int):RSQ w ((((w.alloc (.cells #[Vi T,Vi R,Vi S,Vi C] 172)).alloc (.cells #[Vi i,Vi b,.bool o] 169)).alloc (.cells #[.bool y,Vi z] 175)).alloc (.cells #[Vi 0,Vi 0,.bool false] 169)) (w.heap.size+1+1+1) T R S C i b o/\B2 ((((w.alloc (.cells #[Vi T,Vi R,Vi S,Vi C] 172)).alloc (.cells #[Vi i,Vi b,.bool o] 169)).alloc (.cells #[.bool y,Vi z] 175)).alloc (.cells #[Vi 0,Vi 0,.bool false] 169)) (w.heap.size+1+1) (.bool y) (Vi z):=by
 have e:(((w.alloc (.cells #[Vi T,Vi R,Vi S,Vi C] 172)).alloc (.cells #[Vi i,Vi b,.bool o] 169)).alloc (.cells #[.bool y,Vi z] 175)).heap.size=w.heap.size+1+1+1:=by simp[go_sem]
 have h:((w.alloc (.cells #[Vi T,Vi R,Vi S,Vi C] 172)).alloc (.cells #[Vi i,Vi b,.bool o] 169)).heap.size=w.heap.size+1+1:=by simp[go_sem]
 refine⟨⟨((RS.new w T R S C i b o).lq Vc).lq Vc,((frS w T R S C i b o).lq Vc).lq Vc,?_,?_⟩,?_⟩
 . rw[<-e];exact B3.new _ _ _ _ _
 . rw[<-e];exact FrA.new
 . rw[<-h];exact(B2.new _ _ _ _).lq Vc
end Go.Proofs.YtnepnnkdgejheaaGreatDoor
