import Derived.Shelf.SlSorted.Search
import Derived.Test.YtnfdfiholcelaaaGreatDoorJp01
set_option maxRecDepth 100000
set_option maxHeartbeats 20000000
namespace Go.Proofs.YtnfdfiholcelaaaGreatDoor.Plain
def bk(R f:Int):Int:=if _h:0<f∧0<R then f+bk R (f-R) else 0
termination_by f.toNat
decreasing_by omega
theorem bk_pos{R f:Int}(hR:0<R)(hf:0<f):bk R f=f+bk R (f-R):=by
 rw[bk,dif_pos ⟨hf,hR⟩]
theorem W7{R f:Int}(hf:f≤0):bk R f=0:=by
 rw[bk,dif_neg (by omega)]
theorem Wf(R f:Int):0≤bk R f:=by
 rw[bk]
 split
 · rename_i h
   have:=Wf R (f-R)
   omega
 · exact Int.le_refl _
termination_by f.toNat
decreasing_by omega
theorem bk_mono{R f g:Int}(hR:0<R)(h:f≤g):bk R f≤bk R g:=by
 by_cases hf:0<f
 · rw[bk_pos hR hf,bk_pos (f:=g) hR (by omega)];have:=bk_mono (R:=R) (f:=f-R) (g:=g-R) hR (by omega)
   omega
 · rw[W7 (by omega)];exact Wf R g
termination_by f.toNat
decreasing_by omega
theorem bk_le{R f:Int}(hR:0<R)(hf:0<f):bk R f≤f*f:=by
 rw[bk_pos hR hf]
 by_cases h:0<f-R
 · have i:=bk_le (R:=R) (f:=f-R) hR h;have h1:(f-R)*(f-R)≤(f-1)*(f-1):=Int.mul_le_mul (by omega) (by omega) (by omega) (by omega)
   have h2:(f-1)*(f-1)=f*f-f-f+1:=by rw[Int.sub_mul,Int.mul_sub];omega
   omega
 · rw[W7 (by omega)];have:f*1≤f*f:=Int.mul_le_mul_of_nonneg_left (by omega) (by omega)
   omega
termination_by f.toNat
decreasing_by omega
theorem bk_lt{R f:Int}(hR:0<R)(h:f≤6000):bk R f≤36000000:=by
 have h0:=bk_mono hR h;have h1:=bk_le (R:=R) (f:=6000) hR (by omega)
 omega
theorem bk_twice{R f:Int}(hR:0<R)(hf:0<f):2*bk R f=((f-1)/R+1)*(f+(f-((f-1)/R)*R)):=by
 rw[bk_pos hR hf]
 by_cases h:0<f-R
 · have i:=bk_twice (R:=R) (f:=f-R) hR h
   have e:(f-1)/R=(f-R-1)/R+1:=by
    rw[show f-1=(f-R-1)+R by omega,Int.add_ediv_of_dvd_right (Int.dvd_refl R),Int.ediv_self (by omega)]
   rw[Int.mul_add,i,e];generalize (f-R-1)/R=k
   have e1:(k+1)*R=k*R+R:=by rw[Int.add_mul];omega
   rw[e1];generalize hq:k*R=q
   have e2:(k+1)*(f-R+(f-R-q))=(k+1)*(f+(f-(q+R)))-(k+1)*R:=by
    rw[←Int.mul_sub];congr 1;omega
   have e3:(k+1+1)*(f+(f-(q+R)))=(k+1)*(f+(f-(q+R)))+(f+(f-(q+R))):=by
    rw[Int.add_mul (k+1) 1,Int.one_mul]
   rw[e2,e3,e1,hq]
   omega
 · rw[W7 (by omega),Int.ediv_eq_zero_of_lt (by omega) (by omega)]
   omega
termination_by f.toNat
decreasing_by omega
theorem bk_half{R f:Int}(hR:0<R)(hf:0<f):((f-1)/R+1)*(f+(f-((f-1)/R)*R))/2=bk R f:=by
 rw[←bk_twice hR hf];omega
def IsHi(R p lo hi room h:Int):Prop:=lo≤h∧h≤hi∧(h=lo∨bk R (h+p)≤room)∧∀s,h<s→s≤hi→room<bk R (s+p)
theorem IsHi.only{R p lo hi room h k:Int}(H:IsHi R p lo hi room h)(K:IsHi R p lo hi room k):h=k:=by
 obtain⟨a1,a2,a3,a4⟩:=H;obtain⟨b1,b2,b3,b4⟩:=K
 rcases Int.lt_trichotomy h k with c|c|c
 · have:=a4 k c b2
   omega
 · exact c
 · have:=b4 h c a2
   omega
def grB(L H N P M R:Int):Bool:=decide (-100000≤L)&&decide (L≤100000)&&(decide (-100000≤H)&&decide (H≤100000))&&(decide (0≤N)&&decide (N≤1000))&&(decide (0≤P)&&decide (P≤2000))&&(decide (1≤M)&&decide (M≤4000))&&(decide (1≤R)&&decide (R≤M))
def gfB(L H N P M R:Int):Bool:=decide (P≤M)&&decide (P≤R)&&decide (2*(N+bk R (M+P))≤H-L)
def grE(L H N P M R:Int):Int:=if grB L H N P M R then(if gfB L H N P M R then 0 else 3) else 1
structure GR (L H N P M R:Int):Prop where
 l0:-100000≤L
 l1:L≤100000
 h0:-100000≤H
 h1:H≤100000
 n0:0≤N
 n1:N≤1000
 p0:0≤P
 p1:P≤2000
 m0:1≤M
 m1:M≤4000
 r0:1≤R
 r1:R≤M
theorem grB_true{L H N P M R:Int}(h:grB L H N P M R=true):GR L H N P M R:=by
 simp only[grB,Bool.and_eq_true,decide_eq_true_eq] at h
 constructor<;>omega
structure GOK (L H N P M R:Int):Prop extends GR L H N P M R where
 pm:P≤M
 pr:P≤R
 room:2*(N+bk R (M+P))≤H-L
theorem grE_ok{L H N P M R:Int}(h:grE L H N P M R=0):GOK L H N P M R:=by
 unfold grE at h
 by_cases h1:grB L H N P M R=true
 · rw[if_pos h1] at h
   by_cases h2:gfB L H N P M R=true
   · have a:=grB_true h1;simp only[gfB,Bool.and_eq_true,decide_eq_true_eq] at h2;exact⟨a,h2.1.1,h2.1.2,h2.2⟩
   · rw[if_neg h2] at h;cases h
 · rw[if_neg h1] at h;cases h
theorem no_cross{L H N P M R lo hi y a b:Int}(g:GOK L H N P M R)(hl:-M≤lo)(hh:hi≤M)
 (A:IsHi R P (-hi) (-lo) (y-N-L) a) (B:IsHi R P lo hi (H-N-y) b):-a≤b:=by
 obtain⟨a1,a2,a3,a4⟩:=A;obtain⟨b1,b2,b3,b4⟩:=B;have:=g.room
 rcases Int.lt_or_le b (-a) with c|c
 · have u:=a4 (a+1) (by omega) (by omega);have v:=b4 (b+1) (by omega) (by omega);have m1:=bk_mono (R:=R) (f:=a+1+P) (g:=M+P) (by have:=g.r0;omega) (by omega);have m2:=bk_mono (R:=R) (f:=b+1+P) (g:=M+P) (by have:=g.r0;omega) (by omega)
   omega
 · exact c
def Yj(M R q:Int):Int:=if q-R≤-M then -M else q-R
def Yp(M R q:Int):Int:=if M≤q+R then M else q+R
theorem canLo_or(M R q:Int):Yj M R q=-M∨Yj M R q=q-R:=by unfold Yj;split<;>simp
theorem can_le{M R q:Int}(hR:1≤R)(hM:1≤M)(h0:-M≤q)(h1:q≤M):Yj M R q≤Yp M R q∧-M≤Yj M R q∧Yp M R q≤M∧q-R≤Yj M R q∧Yp M R q≤q+R:=by
 unfold Yj Yp;split<;>split<;>omega
theorem isHi_count{R p lo hi room:Int}{n:Nat}(hR:1≤R)(hn:hi-lo+1=(n:Int))(h:lo≤hi):
 IsHi R p lo hi room (lo+(if((List.range n).countP (fun i:Nat=>decide (bk R (lo+(i:Int)+p)≤room)):Int)-1≤0 then 0 else((List.range n).countP (fun i:Nat=>decide (bk R (lo+(i:Int)+p)≤room)):Int)-1)):=by
 have key:∀m:Nat,∃c:Nat,(List.range m).countP (fun i:Nat=>decide (bk R (lo+(i:Int)+p)≤room))=c∧c≤m∧(∀i,i<c→bk R (lo+(i:Int)+p)≤room)∧(∀i,c≤i→i<m→room<bk R (lo+(i:Int)+p)):=by
  intro m
  induction m with
  |zero=>exact⟨0,rfl,Nat.le_refl _,fun i hi=>absurd hi (Nat.not_lt_zero _),fun i _ h2=>absurd h2 (Nat.not_lt_zero _)⟩
  |succ m ih=>
   obtain⟨c,e,cm,f,t⟩:=ih;rw[List.range_succ,List.countP_append,e]
   by_cases hb:bk R (lo+(m:Int)+p)≤room
   · have all:∀i,i<m+1→bk R (lo+(i:Int)+p)≤room:=by
      intro i hi;have:=bk_mono (R:=R) (f:=lo+(i:Int)+p) (g:=lo+(m:Int)+p) (by omega) (by omega)
      omega
     have hc:c=m:=by
      rcases Nat.lt_or_ge c m with d|d
      · have:=t c (Nat.le_refl _) d;have:=all c (by omega)
        omega
      · omega
     subst hc;refine⟨c+1,by simp[hb],Nat.le_refl _,all,fun i h1 h2=>by omega⟩
   · refine⟨c,by simp[hb],by omega,f,fun i h1 h2=>?_⟩
     by_cases hi:i<m
     · exact t i h1 hi
     · have:i=m:=by omega
       subst this;omega
 obtain⟨c,e,cm,f,t⟩:=key n;rw[e]
 have up:∀s,lo+(c:Int)≤s→s≤hi→room<bk R (s+p):=by
  intro s h1 h2;have:=t (s-lo).toNat (by omega) (by omega);rw[show lo+((s-lo).toNat:Int)+p=s+p by omega] at this;exact this
 by_cases hc:c=0
 · subst hc;rw[if_pos (by omega)];exact⟨by omega,by omega,Or.inl (by omega),fun s h1 h2=>up s (by omega) h2⟩
 · have q:(if(c:Int)-1≤0 then(0:Int) else(c:Int)-1)=(c:Int)-1:=by split<;>omega
   rw[q];refine⟨by omega,by omega,Or.inr ?_,fun s h1 h2=>up s (by omega) h2⟩;have:=f (c-1) (by omega);rw[show lo+((c-1:Nat):Int)+p=lo+((c:Int)-1)+p by omega] at this;exact this
end Go.Proofs.YtnfdfiholcelaaaGreatDoor.Plain
namespace Go.Proofs.YtnfdfiholcelaaaGreatDoor
open Go.RowKit Plain Tryz
variable {H L M N P R:Int}{w w':World}
theorem Xo{x:Int}(h0:-9223372036854775808≤x)(h1:x≤9223372036854775807):IntKind.i64.wrap x=x:=by
 rw[IntKind.wrap_i64];omega
theorem Nr(L H N P M R s:Int)(p0:0≤P)(p1:P≤2000)(r0:1≤R)(r1:R≤4000)(s0:-4000≤s)(s1:s≤4000)(w:World):
 Calls prog 39 #[.agg #[Vi L,Vi H,Vi N,Vi P,Vi M,Vi R],Vi s] w fun e w'=>e=.returned (Vi (bk R (s+P)))∧w'=w.alloc (.cells #[Vi L,Vi H,Vi N,Vi P,Vi M,Vi R] 99):=by
 have hm:Hid (bk R (s+P)≤36000000):=bk_lt (by omega) (by omega);obtain⟨tot,ht⟩:∃t,Hid (bk R (s+P)=t):=⟨_,rfl⟩;rw[ht.out] at hm⊢
 go_enter func39,ntmps39
 go_wp2
 go_loop [1,5] (fun u v=>∃t n:Int,u=Vi t∧v=Vi n∧t≤s∧-8000≤t∧0≤n∧n+bk R (t+P)=tot) (fun u _=>(intOf u+8000).toNat)
 case atStart=>exact⟨s,0,rfl,rfl,by omega,by omega,by omega,by rw[ht.out];omega⟩
 case round=>
  obtain⟨t,n,rfl,rfl,t0,t1,n0,hn0⟩:=hrel;have hn:Hid (n+bk R (t+P)=tot):=hn0;clear hn0
  have hn1:n≤36000000:=by have:=Wf R (t+P);have:=hn.out;have:=hm.out;omega
  by_cases hgo:0<t+P
  · have hk:Hid (n+t+P+bk R (t-R+P)=tot):=by
     have e:=bk_pos (R:=R) (f:=t+P) (by omega) hgo;rw[show t+P-R=t-R+P by omega] at e;have:=hn.out
     show _=_
     omega
    go_wp2
    go_round
    case rel=>exact⟨t-R,n+t+P,rfl,rfl,by omega,by omega,by omega,hk.out⟩
    case measure=>simp[intOf];omega
  · have hk:Hid (n=tot):=by
     have e:=W7 (R:=R) (f:=t+P) (by omega);have:=hn.out
     show _=_
     omega
    go_wp2;go_ret;exact⟨by rw[hk.out];rfl,rfl⟩
theorem brake_ex(L H N P M R s:Int)(p0:0≤P)(p1:P≤2000)(r0:1≤R)(r1:R≤4000)(s0:-4000≤s)(s1:s≤4000)(w:World):
 Calls prog 227 #[.agg #[Vi L,Vi H,Vi N,Vi P,Vi M,Vi R],Vi s] w fun e w'=>e=.returned (Vi (bk R (s+P)))∧w'=w.alloc (.cells #[Vi L,Vi H,Vi N,Vi P,Vi M,Vi R] 99):=by
 by_cases hgo:s+P≤0
 · rw[W7 hgo]
   go_enter func227,ntmps227
   go_wp2;go_ret;exact⟨rfl,rfl⟩
 · have hR:(R==0)=false:=by simp;omega
   have hk:=bk_half (R:=R) (f:=s+P) (by omega) (by omega);rw[←Int.tdiv_eq_ediv_of_nonneg (a:=s+P-1) (by omega)] at hk;have q0:0≤(s+P-1).tdiv R:=Int.tdiv_nonneg (by omega) (by omega)
   have q1:(s+P-1).tdiv R≤6000:=by
    rw[Int.tdiv_eq_ediv_of_nonneg (by omega)];have:=Int.ediv_le_self (a:=s+P-1) R (by omega)
    omega
   have q2:(s+P-1).tdiv R*R≤s+P-1:=by
    rw[Int.tdiv_eq_ediv_of_nonneg (by omega)];exact Int.ediv_mul_le _ (by omega)
   generalize hkk:(s+P-1).tdiv R=k at *;have q3:0≤k*R:=Int.mul_nonneg q0 (by omega)
   have q4:k+1-1=k:=by omega
   have v1:=Wr (k*R);have q5:0≤(k+1)*(s+P+(s+P-k*R)):=Int.mul_nonneg (by omega) (by omega);have q6:(k+1)*(s+P+(s+P-k*R))≤6001*12000:=Int.mul_le_mul (by omega) (by omega) (by omega) (by omega);have v2:=Wr ((k+1)*(s+P+(s+P-k*R)))
   have HK:Hid (((k+1)*(s+P+(s+P-k*R))).tdiv 2=bk R (s+P)):=by
    show _=_
    rw[Int.tdiv_eq_ediv_of_nonneg q5];exact hk
   have w2:((k+1)*(s+P+(s+P-k*R))).tdiv 2≤100000000∧0≤((k+1)*(s+P+(s+P-k*R))).tdiv 2:=by
    rw[Int.tdiv_eq_ediv_of_nonneg q5];omega
   obtain⟨w20,w21⟩:=w2;clear hk q4
   go_enter func227,ntmps227
   go_wp2;go_ret;exact⟨by rw[←HK.out];rfl,rfl⟩
def B6(w:World)(B:Nat)(L H N P M R:Int):Prop:=(Kc w B 0 (Vi L)∧Kc w B 1 (Vi H)∧Kc w B 2 (Vi N)∧Kc w B 3 (Vi P)∧Kc w B 4 (Vi M)∧Kc w B 5 (Vi R))
theorem Zx{p:Addr}{v:Value}(hb:Bw w w')(h:w.cell? p=some v):w'.cell? p=some v:=by
 rw[hb.cell (World.block_lt_of_cell? w p h)];exact h
theorem B6.later{B:Nat}(h:B6 w B L H N P M R)(hb:Bw w w'):B6 w' B L H N P M R:=
 ⟨Zx hb h.1,Zx hb h.2.1,Zx hb h.2.2.1,Zx hb h.2.2.2.1,Zx hb h.2.2.2.2.1,Zx hb h.2.2.2.2.2⟩
theorem B6.new(w:World)(L H N P M R:Int)(t:TypeId):B6 (w.alloc (.cells #[Vi L,Vi H,Vi N,Vi P,Vi M,Vi R] t)) w.heap.size L H N P M R:=by
 refine⟨?_,?_,?_,?_,?_,?_⟩<;>simp[go_sem]
def GB(w0 w:World)(L H N P M R:Int):Prop:=B6 w w0.heap.size L H N P M R∧Bw w0 w
theorem GB.later{w0:World}(h:GB w0 w L H N P M R)(hb:Bw w w'):GB w0 w' L H N P M R:=⟨h.1.later hb,Zc h.2 hb⟩
theorem GB.new(w:World)(L H N P M R:Int):GB w (w.alloc (.cells #[Vi L,Vi H,Vi N,Vi P,Vi M,Vi R] 99)) L H N P M R:=⟨B6.new w _ _ _ _ _ _ _,Zb _ _⟩
theorem Xs{u u':World}(hb:Bw u u')(h:(Kc u w.heap.size 0 (Vi L)∧Kc u w.heap.size 1 (Vi H)∧Kc u w.heap.size 2 (Vi N)∧Kc u w.heap.size 3 (Vi P)∧Kc u w.heap.size 4 (Vi M)∧Kc u w.heap.size 5 (Vi R))∧Bw w u):(Kc u' w.heap.size 0 (Vi L)∧Kc u' w.heap.size 1 (Vi H)∧Kc u' w.heap.size 2 (Vi N)∧Kc u' w.heap.size 3 (Vi P)∧Kc u' w.heap.size 4 (Vi M)∧Kc u' w.heap.size 5 (Vi R))∧Bw w u':=⟨B6.later h.1 hb,Zc h.2 hb⟩
theorem grB_eq(L H N P M R:Int):grB L H N P M R=(betw L (-100000) 100000&&betw H (-100000) 100000&&betw N 0 1000&&betw P 0 2000&&betw M 1 4000&&betw R 1 M):=rfl
theorem isInRange_any(L H N P M R:Int)(w:World):
 Calls prog 226 #[.agg #[Vi L,Vi H,Vi N,Vi P,Vi M,Vi R]] w (Rt w (.bool (grB L H N P M R))):=by
 have f1:=Ym L (-100000) 100000;have f2:=Ym H (-100000) 100000;have f3:=Ym N 0 1000;have f4:=Ym P 0 2000;have f5:=Ym M 1 4000;have f6:=Ym R 1 M;rw[grB_eq];generalize betw L (-100000) 100000=x1 at *;generalize betw H (-100000) 100000=x2 at *;generalize betw N 0 1000=x3 at *;generalize betw P 0 2000=x4 at *;generalize betw M 1 4000=x5 at *;generalize betw R 1 M=x6 at*
 rcases(show(x1=false)∨(x1=true∧x2=false)∨(x1=true∧x2=true∧x3=false)∨(x1=true∧x2=true∧x3=true∧x4=false)∨(x1=true∧x2=true∧x3=true∧x4=true∧x5=false)∨(x1=true∧x2=true∧x3=true∧x4=true∧x5=true∧x6=false)∨(x1=true∧x2=true∧x3=true∧x4=true∧x5=true∧x6=true) by cases x1<;>cases x2<;>cases x3<;>cases x4<;>cases x5<;>cases x6<;>simp) with rfl|⟨rfl,rfl⟩|⟨rfl,rfl,rfl⟩|⟨rfl,rfl,rfl,rfl⟩|⟨rfl,rfl,rfl,rfl,rfl⟩|⟨rfl,rfl,rfl,rfl,rfl,rfl⟩|⟨rfl,rfl,rfl,rfl,rfl,rfl⟩
 all_goals
  go_enter func226,ntmps226
  go_wp2_with (first|((first|go_at_call_of 76 (Vi R)|go_at_call_of 76 (Value.int .i64 R));refine(f6 _).mono ?_;rintro e w' ⟨rfl,rfl⟩)|((first|go_at_call_of 76 (Vi M)|go_at_call_of 76 (Value.int .i64 M));refine(f5 _).mono ?_;rintro e w' ⟨rfl,rfl⟩)|((first|go_at_call_of 76 (Vi P)|go_at_call_of 76 (Value.int .i64 P));refine(f4 _).mono ?_;rintro e w' ⟨rfl,rfl⟩)|((first|go_at_call_of 76 (Vi N)|go_at_call_of 76 (Value.int .i64 N));refine(f3 _).mono ?_;rintro e w' ⟨rfl,rfl⟩)|((first|go_at_call_of 76 (Vi H)|go_at_call_of 76 (Value.int .i64 H));refine(f2 _).mono ?_;rintro e w' ⟨rfl,rfl⟩)|((first|go_at_call_of 76 (Vi L)|go_at_call_of 76 (Value.int .i64 L));refine(f1 _).mono ?_;rintro e w' ⟨rfl,rfl⟩));go_ret;exact⟨rfl,by repeat (first|exact Zb _ _|refine Zc ?_ (Zb _ _))⟩
theorem Zia(L H N P M R:Int)(w:World):
 Calls prog 182 #[.agg #[Vi L,Vi H,Vi N,Vi P,Vi M,Vi R]] w (Rt w (errV (grE L H N P M R))):=by
 have hin:=isInRange_any L H N P M R;have HX:=Za (GB.new w L H N P M R);have hE:grE L H N P M R=if grB L H N P M R then(if gfB L H N P M R then 0 else 3) else 1:=rfl
 by_cases hg:grB L H N P M R=true
 · rw[hg] at hin hE;obtain⟨l0,l1,h0,h1,n0,n1,p0,p1,m0,m1,r0,r1⟩:=grB_true hg
   by_cases c1:P≤M
   · by_cases c2:P≤R
     · have hbr:=fun w=>(brake_ex L H N P M R M p0 p1 r0 (by omega) (by omega) (by omega) w).mono (fun e w' h=>(⟨h.1,by rw[h.2];exact Zb _ _⟩:e=_∧Bw w w'));have hk:=bk_lt (R:=R) (f:=M+P) (by omega) (by omega);have hk0:=Wf R (M+P)
       have hf:gfB L H N P M R=decide (2*(N+bk R (M+P))≤H-L):=by unfold gfB;rw[decide_eq_true c1,decide_eq_true c2];rfl
       generalize bk R (M+P)=k at *;have v1:=Wr (N+k);have v2:=Wr (2*(N+k));have v3:=Wr (H-L)
       by_cases c3:2*(N+k)≤H-L
       · have HE:Hid (grE L H N P M R=0):=by show _=_;rw[hE,hf,decide_eq_true c3];rfl
         have d3:decide (H-L<2*(N+k))=false:=decide_eq_false (by omega);clear hE hf hg
         go_enter func182,ntmps182
         go_upto_region 5 with(go_at_call 226;refine Sb (hin _) fun w1 hb1=>?_;have HX:=Za (HX.out.later hb1);obtain⟨⟨q0,q1,q2,q3,q4,q5⟩,_⟩:=HX.out;clear hb1);obtain⟨⟨q0,q1,q2,q3,q4,q5⟩,_⟩:=HX.out;have S0:(Kc w1 w.heap.size 0 (Vi L)∧Kc w1 w.heap.size 1 (Vi H)∧Kc w1 w.heap.size 2 (Vi N)∧Kc w1 w.heap.size 3 (Vi P)∧Kc w1 w.heap.size 4 (Vi M)∧Kc w1 w.heap.size 5 (Vi R))∧Bw w w1:=HX.out;have Z:=Za S0
         go_region_held3 (fun u=>(Kc u w.heap.size 0 (Vi L)∧Kc u w.heap.size 1 (Vi H)∧Kc u w.heap.size 2 (Vi N)∧Kc u w.heap.size 3 (Vi P)∧Kc u w.heap.size 4 (Vi M)∧Kc u w.heap.size 5 (Vi R))∧Bw w u)
          (first
           |(with_reducible assumption)
           |(with_reducible apply Xs;with_reducible assumption;with_reducible assumption)
           |(refine Xs ?_ Z.out;exact(Below.refl _ _).drew))
          (first
           |(go_at_call 227;refine Sb (hbr _) fun w' hb=>?_))
         all_goals
          rename_i hH
          have HB:=Za hH.2;clear hH;go_wp2_with fail;go_ret;exact⟨by rw[HE.out];rfl,HB.out⟩
       · have HE:Hid (grE L H N P M R=3):=by show _=_;rw[hE,hf,decide_eq_false c3];rfl
         have d3:decide (H-L<2*(N+k))=true:=decide_eq_true (by omega);clear hE hf hg
         go_enter func182,ntmps182
         go_upto_region 5 with(go_at_call 226;refine Sb (hin _) fun w1 hb1=>?_;have HX:=Za (HX.out.later hb1);obtain⟨⟨q0,q1,q2,q3,q4,q5⟩,_⟩:=HX.out;clear hb1);obtain⟨⟨q0,q1,q2,q3,q4,q5⟩,_⟩:=HX.out;have S0:(Kc w1 w.heap.size 0 (Vi L)∧Kc w1 w.heap.size 1 (Vi H)∧Kc w1 w.heap.size 2 (Vi N)∧Kc w1 w.heap.size 3 (Vi P)∧Kc w1 w.heap.size 4 (Vi M)∧Kc w1 w.heap.size 5 (Vi R))∧Bw w w1:=HX.out;have Z:=Za S0
         go_region_held3 (fun u=>(Kc u w.heap.size 0 (Vi L)∧Kc u w.heap.size 1 (Vi H)∧Kc u w.heap.size 2 (Vi N)∧Kc u w.heap.size 3 (Vi P)∧Kc u w.heap.size 4 (Vi M)∧Kc u w.heap.size 5 (Vi R))∧Bw w u)
          (first
           |(with_reducible assumption)
           |(with_reducible apply Xs;with_reducible assumption;with_reducible assumption)
           |(refine Xs ?_ Z.out;exact(Below.refl _ _).drew))
          (first
           |(go_at_call 227;refine Sb (hbr _) fun w' hb=>?_))
         all_goals
          rename_i hH
          have HB:=Za hH.2;clear hH;go_wp2_with fail;go_ret;exact⟨by rw[HE.out];rfl,HB.out⟩
     · have HE:Hid (grE L H N P M R=3):=by show _=_;rw[hE];unfold gfB;rw[decide_eq_false c2];simp
       clear hE hg
       go_enter func182,ntmps182
       go_wp2_with (go_at_call 226;refine Sb (hin _) fun w1 hb1=>?_;have HX:=Za (HX.out.later hb1);obtain⟨⟨q0,q1,q2,q3,q4,q5⟩,_⟩:=HX.out;clear hb1);go_ret;exact⟨by rw[HE.out];rfl,HX.out.2⟩
   · have HE:Hid (grE L H N P M R=3):=by show _=_;rw[hE];unfold gfB;rw[decide_eq_false c1];simp
     clear hE hg
     go_enter func182,ntmps182
     go_wp2_with (go_at_call 226;refine Sb (hin _) fun w1 hb1=>?_;have HX:=Za (HX.out.later hb1);obtain⟨⟨q0,q1,q2,q3,q4,q5⟩,_⟩:=HX.out;clear hb1);go_ret;exact⟨by rw[HE.out];rfl,HX.out.2⟩
 · have hg':grB L H N P M R=false:=by simpa using hg
   rw[hg'] at hin hE;have HE:Hid (grE L H N P M R=1):=hE;clear hE hg hg'
   go_enter func182,ntmps182
   go_wp2_with (go_at_call 226;refine Sb (hin _) fun w1 hb1=>?_;have HX:=Za (HX.out.later hb1);obtain⟨⟨q0,q1,q2,q3,q4,q5⟩,_⟩:=HX.out;clear hb1);go_ret;exact⟨by rw[HE.out];rfl,HX.out.2⟩
theorem guardMay_no(L H N P M R:Int)(hg:grB L H N P M R=false)(w:World):
 Calls prog 139 #[.agg #[Vi L,Vi H,Vi N,Vi P,Vi M,Vi R]] w (Rt w (Vi 1)):=by
 have f1:=Zy L (-100000) 100000;have f2:=Zy H (-100000) 100000;have f3:=Zy N 0 1000;have f4:=Zy P 0 2000;have f5:=Zy M 1 4000;have f6:=Zy R 1 M;rw[grB_eq] at hg;generalize betw L (-100000) 100000=x1 at *;generalize betw H (-100000) 100000=x2 at *;generalize betw N 0 1000=x3 at *;generalize betw P 0 2000=x4 at *;generalize betw M 1 4000=x5 at *;generalize betw R 1 M=x6 at*
 rcases(show(x1=false)∨(x1=true∧x2=false)∨(x1=true∧x2=true∧x3=false)∨(x1=true∧x2=true∧x3=true∧x4=false)∨(x1=true∧x2=true∧x3=true∧x4=true∧x5=false)∨(x1=true∧x2=true∧x3=true∧x4=true∧x5=true∧x6=false) by cases x1<;>cases x2<;>cases x3<;>cases x4<;>cases x5<;>cases x6<;>simp_all) with rfl|⟨rfl,rfl⟩|⟨rfl,rfl,rfl⟩|⟨rfl,rfl,rfl,rfl⟩|⟨rfl,rfl,rfl,rfl,rfl⟩|⟨rfl,rfl,rfl,rfl,rfl,rfl⟩
 all_goals
  clear hg
  go_enter func139,ntmps139
  go_wp2_with (first|((first|go_at_call_of 38 (Vi R)|go_at_call_of 38 (Value.int .i64 R));refine(f6 _).mono ?_;rintro e w' ⟨rfl,rfl⟩)|((first|go_at_call_of 38 (Vi M)|go_at_call_of 38 (Value.int .i64 M));refine(f5 _).mono ?_;rintro e w' ⟨rfl,rfl⟩)|((first|go_at_call_of 38 (Vi P)|go_at_call_of 38 (Value.int .i64 P));refine(f4 _).mono ?_;rintro e w' ⟨rfl,rfl⟩)|((first|go_at_call_of 38 (Vi N)|go_at_call_of 38 (Value.int .i64 N));refine(f3 _).mono ?_;rintro e w' ⟨rfl,rfl⟩)|((first|go_at_call_of 38 (Vi H)|go_at_call_of 38 (Value.int .i64 H));refine(f2 _).mono ?_;rintro e w' ⟨rfl,rfl⟩)|((first|go_at_call_of 38 (Vi L)|go_at_call_of 38 (Value.int .i64 L));refine(f1 _).mono ?_;rintro e w' ⟨rfl,rfl⟩));go_ret;exact⟨rfl,Zb _ _⟩
theorem guardMay_yes(L H N P M R:Int)(hg:grB L H N P M R=true)(w:World):
 Calls prog 139 #[.agg #[Vi L,Vi H,Vi N,Vi P,Vi M,Vi R]] w (Rt w (Vi (grE L H N P M R))):=by
 have hE:grE L H N P M R=if gfB L H N P M R then 0 else 3:=by unfold grE;rw[if_pos hg]
 obtain⟨l0,l1,h0,h1,n0,n1,p0,p1,m0,m1,r0,r1⟩:=grB_true hg;have f1:=Zy L (-100000) 100000;have f2:=Zy H (-100000) 100000;have f3:=Zy N 0 1000;have f4:=Zy P 0 2000;have f5:=Zy M 1 4000;have f6:=Zy R 1 M;rw[Y7 l0 l1] at f1;rw[Y7 h0 h1] at f2;rw[Y7 n0 n1] at f3;rw[Y7 p0 p1] at f4;rw[Y7 m0 m1] at f5;rw[Y7 r0 r1] at f6;have HX:=Za (GB.new w L H N P M R);clear hg
 by_cases c1:P≤M
 · by_cases c2:P≤R
   · have hbr:=fun w=>(Nr L H N P M R M p0 p1 r0 (by omega) (by omega) (by omega) w).mono (fun e w' h=>(⟨h.1,by rw[h.2];exact Zb _ _⟩:e=_∧Bw w w'));have hk:=bk_lt (R:=R) (f:=M+P) (by omega) (by omega);have hk0:=Wf R (M+P)
     have hf:gfB L H N P M R=decide (2*(N+bk R (M+P))≤H-L):=by unfold gfB;rw[decide_eq_true c1,decide_eq_true c2];rfl
     generalize bk R (M+P)=k at *;have v1:=Wr (N+k);have v2:=Wr (2*(N+k));have v3:=Wr (H-L);have d1:decide (M<P)=false:=decide_eq_false (by omega);have d2:decide (R<P)=false:=decide_eq_false (by omega)
     by_cases c3:2*(N+k)≤H-L
     · have HE:Hid (grE L H N P M R=0):=by show _=_;rw[hE,hf,decide_eq_true c3];rfl
       have d3:decide (H-L<2*(N+k))=false:=decide_eq_false (by omega);clear hE hf
       go_enter func139,ntmps139
       go_upto_region 4 with(first|((first|go_at_call_of 38 (Vi R)|go_at_call_of 38 (Value.int .i64 R));refine(f6 _).mono ?_;rintro e w' ⟨rfl,rfl⟩)|((first|go_at_call_of 38 (Vi M)|go_at_call_of 38 (Value.int .i64 M));refine(f5 _).mono ?_;rintro e w' ⟨rfl,rfl⟩)|((first|go_at_call_of 38 (Vi P)|go_at_call_of 38 (Value.int .i64 P));refine(f4 _).mono ?_;rintro e w' ⟨rfl,rfl⟩)|((first|go_at_call_of 38 (Vi N)|go_at_call_of 38 (Value.int .i64 N));refine(f3 _).mono ?_;rintro e w' ⟨rfl,rfl⟩)|((first|go_at_call_of 38 (Vi H)|go_at_call_of 38 (Value.int .i64 H));refine(f2 _).mono ?_;rintro e w' ⟨rfl,rfl⟩)|((first|go_at_call_of 38 (Vi L)|go_at_call_of 38 (Value.int .i64 L));refine(f1 _).mono ?_;rintro e w' ⟨rfl,rfl⟩));generalize w.alloc (.cells #[Vi L,Vi H,Vi N,Vi P,Vi M,Vi R] 99)=w1 at *;obtain⟨⟨q0,q1,q2,q3,q4,q5⟩,_⟩:=HX.out;have S0:(Kc w1 w.heap.size 0 (Vi L)∧Kc w1 w.heap.size 1 (Vi H)∧Kc w1 w.heap.size 2 (Vi N)∧Kc w1 w.heap.size 3 (Vi P)∧Kc w1 w.heap.size 4 (Vi M)∧Kc w1 w.heap.size 5 (Vi R))∧Bw w w1:=HX.out;have Z:=Za S0
       go_region_held3 (fun u=>(Kc u w.heap.size 0 (Vi L)∧Kc u w.heap.size 1 (Vi H)∧Kc u w.heap.size 2 (Vi N)∧Kc u w.heap.size 3 (Vi P)∧Kc u w.heap.size 4 (Vi M)∧Kc u w.heap.size 5 (Vi R))∧Bw w u)
        (first
         |(with_reducible assumption)
         |(with_reducible apply Xs;with_reducible assumption;with_reducible assumption)
         |(refine Xs ?_ Z.out;exact(Below.refl _ _).drew))
        (first
         |(go_at_call 39;refine Sb (hbr _) fun w' hb=>?_)
         |(go_at_call 14;refine(Ww _ _ _).mono ?_;rintro e w' ⟨rfl,rfl⟩))
       all_goals
        rename_i hH
        have HB:=Za hH.2;clear hH;go_wp2_with fail;go_ret;exact⟨by rw[HE.out];rfl,HB.out⟩
     · have HE:Hid (grE L H N P M R=3):=by show _=_;rw[hE,hf,decide_eq_false c3];rfl
       have d3:decide (H-L<2*(N+k))=true:=decide_eq_true (by omega);clear hE hf
       go_enter func139,ntmps139
       go_upto_region 4 with(first|((first|go_at_call_of 38 (Vi R)|go_at_call_of 38 (Value.int .i64 R));refine(f6 _).mono ?_;rintro e w' ⟨rfl,rfl⟩)|((first|go_at_call_of 38 (Vi M)|go_at_call_of 38 (Value.int .i64 M));refine(f5 _).mono ?_;rintro e w' ⟨rfl,rfl⟩)|((first|go_at_call_of 38 (Vi P)|go_at_call_of 38 (Value.int .i64 P));refine(f4 _).mono ?_;rintro e w' ⟨rfl,rfl⟩)|((first|go_at_call_of 38 (Vi N)|go_at_call_of 38 (Value.int .i64 N));refine(f3 _).mono ?_;rintro e w' ⟨rfl,rfl⟩)|((first|go_at_call_of 38 (Vi H)|go_at_call_of 38 (Value.int .i64 H));refine(f2 _).mono ?_;rintro e w' ⟨rfl,rfl⟩)|((first|go_at_call_of 38 (Vi L)|go_at_call_of 38 (Value.int .i64 L));refine(f1 _).mono ?_;rintro e w' ⟨rfl,rfl⟩));generalize w.alloc (.cells #[Vi L,Vi H,Vi N,Vi P,Vi M,Vi R] 99)=w1 at *;obtain⟨⟨q0,q1,q2,q3,q4,q5⟩,_⟩:=HX.out;have S0:(Kc w1 w.heap.size 0 (Vi L)∧Kc w1 w.heap.size 1 (Vi H)∧Kc w1 w.heap.size 2 (Vi N)∧Kc w1 w.heap.size 3 (Vi P)∧Kc w1 w.heap.size 4 (Vi M)∧Kc w1 w.heap.size 5 (Vi R))∧Bw w w1:=HX.out;have Z:=Za S0
       go_region_held3 (fun u=>(Kc u w.heap.size 0 (Vi L)∧Kc u w.heap.size 1 (Vi H)∧Kc u w.heap.size 2 (Vi N)∧Kc u w.heap.size 3 (Vi P)∧Kc u w.heap.size 4 (Vi M)∧Kc u w.heap.size 5 (Vi R))∧Bw w u)
        (first
         |(with_reducible assumption)
         |(with_reducible apply Xs;with_reducible assumption;with_reducible assumption)
         |(refine Xs ?_ Z.out;exact(Below.refl _ _).drew))
        (first
         |(go_at_call 39;refine Sb (hbr _) fun w' hb=>?_)
         |(go_at_call 14;refine(Ww _ _ _).mono ?_;rintro e w' ⟨rfl,rfl⟩))
       all_goals
        rename_i hH
        have HB:=Za hH.2;clear hH;go_wp2_with fail;go_ret;exact⟨by rw[HE.out];rfl,HB.out⟩
   · have HE:Hid (grE L H N P M R=3):=by show _=_;rw[hE];unfold gfB;rw[decide_eq_false c2];simp
     have d1:decide (M<P)=false:=decide_eq_false (by omega);have d2:decide (R<P)=true:=decide_eq_true (by omega);clear hE
     go_enter func139,ntmps139
     go_upto_region 4 with(first|((first|go_at_call_of 38 (Vi R)|go_at_call_of 38 (Value.int .i64 R));refine(f6 _).mono ?_;rintro e w' ⟨rfl,rfl⟩)|((first|go_at_call_of 38 (Vi M)|go_at_call_of 38 (Value.int .i64 M));refine(f5 _).mono ?_;rintro e w' ⟨rfl,rfl⟩)|((first|go_at_call_of 38 (Vi P)|go_at_call_of 38 (Value.int .i64 P));refine(f4 _).mono ?_;rintro e w' ⟨rfl,rfl⟩)|((first|go_at_call_of 38 (Vi N)|go_at_call_of 38 (Value.int .i64 N));refine(f3 _).mono ?_;rintro e w' ⟨rfl,rfl⟩)|((first|go_at_call_of 38 (Vi H)|go_at_call_of 38 (Value.int .i64 H));refine(f2 _).mono ?_;rintro e w' ⟨rfl,rfl⟩)|((first|go_at_call_of 38 (Vi L)|go_at_call_of 38 (Value.int .i64 L));refine(f1 _).mono ?_;rintro e w' ⟨rfl,rfl⟩));generalize w.alloc (.cells #[Vi L,Vi H,Vi N,Vi P,Vi M,Vi R] 99)=w1 at *;obtain⟨⟨q0,q1,q2,q3,q4,q5⟩,_⟩:=HX.out;go_quiet ((go_at_call 14;exact Calls.quiet_of_same (Ww _ _ _)));go_wp2;go_ret;exact⟨by rw[HE.out];rfl,Zc HX.out.2 (below_drewN (Below.refl _ _) _)⟩
 · have HE:Hid (grE L H N P M R=3):=by show _=_;rw[hE];unfold gfB;rw[decide_eq_false c1];simp
   have d1:decide (M<P)=true:=decide_eq_true (by omega);clear hE
   go_enter func139,ntmps139
   go_upto_region 4 with(first|((first|go_at_call_of 38 (Vi R)|go_at_call_of 38 (Value.int .i64 R));refine(f6 _).mono ?_;rintro e w' ⟨rfl,rfl⟩)|((first|go_at_call_of 38 (Vi M)|go_at_call_of 38 (Value.int .i64 M));refine(f5 _).mono ?_;rintro e w' ⟨rfl,rfl⟩)|((first|go_at_call_of 38 (Vi P)|go_at_call_of 38 (Value.int .i64 P));refine(f4 _).mono ?_;rintro e w' ⟨rfl,rfl⟩)|((first|go_at_call_of 38 (Vi N)|go_at_call_of 38 (Value.int .i64 N));refine(f3 _).mono ?_;rintro e w' ⟨rfl,rfl⟩)|((first|go_at_call_of 38 (Vi H)|go_at_call_of 38 (Value.int .i64 H));refine(f2 _).mono ?_;rintro e w' ⟨rfl,rfl⟩)|((first|go_at_call_of 38 (Vi L)|go_at_call_of 38 (Value.int .i64 L));refine(f1 _).mono ?_;rintro e w' ⟨rfl,rfl⟩));generalize w.alloc (.cells #[Vi L,Vi H,Vi N,Vi P,Vi M,Vi R] 99)=w1 at *;obtain⟨⟨q0,q1,q2,q3,q4,q5⟩,_⟩:=HX.out;go_quiet ((go_at_call 14;exact Calls.quiet_of_same (Ww _ _ _)));go_wp2;go_ret;exact⟨by rw[HE.out];rfl,Zc HX.out.2 (below_drewN (Below.refl _ _) _)⟩
theorem guardMay_any(L H N P M R:Int)(w:World):
 Calls prog 139 #[.agg #[Vi L,Vi H,Vi N,Vi P,Vi M,Vi R]] w (Rt w (Vi (grE L H N P M R))):=by
 by_cases hg:grB L H N P M R=true
 · exact guardMay_yes L H N P M R hg w
 · have hg':grB L H N P M R=false:=by simpa using hg
   rw[show grE L H N P M R=1 by unfold grE;rw[if_neg hg]];exact guardMay_no L H N P M R hg' w
def gmE(L H N P M R s:Int):Int:=if grE L H N P M R=0 then(if betw s (-M) M then 0 else 1) else grE L H N P M R
theorem checkMove_any(L H N P M R s:Int)(w:World):
 Calls prog 241 #[.agg #[Vi L,Vi H,Vi N,Vi P,Vi M,Vi R],Vi s] w (Rt w (errV (gmE L H N P M R s))):=by
 have hc:=Zia L H N P M R;have HX:=Za (GB.new w L H N P M R)
 by_cases he:grE L H N P M R=0
 · have hE:gmE L H N P M R s=if betw s (-M) M then 0 else 1:=by unfold gmE;rw[if_pos he]
   rw[he,Z2] at hc;obtain⟨⟨l0,l1,h0,h1,n0,n1,p0,p1,m0,m1,r0,r1⟩,pm,pr,room⟩:=grE_ok he;have f1:=Wd s (-M) M;clear he room;generalize betw s (-M) M=x1 at*
   cases x1
   · have HE:Hid (gmE L H N P M R s=1):=hE;clear hE
     go_enter func241,ntmps241
     go_wp2_with (first|(go_at_call 182;refine Sb (hc _) fun w1 hb1=>?_;have HX:=Za (HX.out.later hb1);obtain⟨⟨q0,q1,q2,q3,q4,q5⟩,_⟩:=HX.out;clear hb1)|(go_at_call 76;refine Sb (f1 _) fun w2 hb2=>?_;have HX:=Za (HX.out.later hb2);obtain⟨⟨q0,q1,q2,q3,q4,q5⟩,_⟩:=HX.out;clear hb2));go_ret;exact⟨by rw[HE.out];rfl,HX.out.2⟩
   · have HE:Hid (gmE L H N P M R s=0):=hE;clear hE
     go_enter func241,ntmps241
     go_wp2_with (first|(go_at_call 182;refine Sb (hc _) fun w1 hb1=>?_;have HX:=Za (HX.out.later hb1);obtain⟨⟨q0,q1,q2,q3,q4,q5⟩,_⟩:=HX.out;clear hb1)|(go_at_call 76;refine Sb (f1 _) fun w2 hb2=>?_;have HX:=Za (HX.out.later hb2);obtain⟨⟨q0,q1,q2,q3,q4,q5⟩,_⟩:=HX.out;clear hb2));go_ret;exact⟨by rw[HE.out];rfl,HX.out.2⟩
 · have hE:gmE L H N P M R s=grE L H N P M R:=by unfold gmE;rw[if_neg he]
   rw[hE];rw[Z4 he] at hc⊢;clear hE;generalize grE L H N P M R=x at *;clear he
   go_enter func241,ntmps241
   go_wp2_with (go_at_call 182;refine Sb (hc _) fun w1 hb1=>?_;have HX:=Za (HX.out.later hb1);obtain⟨⟨q0,q1,q2,q3,q4,q5⟩,_⟩:=HX.out;clear hb1);go_ret;exact⟨rfl,HX.out.2⟩
end Go.Proofs.YtnfdfiholcelaaaGreatDoor
namespace Go.Proofs.YtnfdfiholcelaaaGreatDoor
open Go.Shelf Go.RowKit Go.Sort Plain Tryz
def searchL_ren:Go.Shelf.Ren:=⟨fun|16=>246|n=>n,fun|3=>3|4=>4|35=>266|38=>229|n=>n,fun n=>n⟩
theorem searchL:Go.Proofs.SlLaysO.n16 prog searchL_ren:={
 mixed:=by kernel_rfl
 f16:=func246.trans (congrArg some (by kernel_rfl))
 t3:=underlying3
 a3:=Tryz.isAgg3
 z3:=Tryz.sizeOf3
 v3:=Tryz.zeroValue3
 t4:=underlying4
 a4:=Tryz.isAgg4
 z4:=Tryz.sizeOf4
 v4:=Tryz.zeroValue4
 t35:=underlying266
 a35:=Tryz.isAgg266
 z35:=Tryz.sizeOf266
 v35:=Tryz.zeroValue266
 t38:=underlying229
 a38:=Tryz.isAgg229
 z38:=Tryz.sizeOf229
 v38:=Tryz.zeroValue229
}
theorem search_any(g:Nat)(cb:Array Value)(n:Nat)(p:Nat→Bool)(w:World)(eg:∀args w,(callFunc g args).run prog w=.ok (.enter g args) w)(hsz:n<4611686018427387904)(hf:∀(m:Nat) (os:Array Obj) (i:Nat),i<n→Calls prog g (#[Vi i]++cb) (grow (w.drewN m) os) fun e w'=>e=.returned (.bool (p i))∧∃q os',w'=grow ((grow (w.drewN m) os).drewN q) os')(hmono:∀a b,a≤b→b<n→p a=true→p b=true):
 Calls prog 246 #[Vi n,.func (.func g) #[] cb] w fun e w'=>e=.returned (Vi ((List.range n).countP (fun i=>!p i):Nat))∧∃q os,w'=grow (w.drewN q) os:=
 Any.sort_Search searchL g cb n p w eg hsz hf hmono
end Go.Proofs.YtnfdfiholcelaaaGreatDoor
