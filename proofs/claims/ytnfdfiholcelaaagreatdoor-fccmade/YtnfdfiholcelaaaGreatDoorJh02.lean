
import Derived.Test.YtnfdfiholcelaaaGreatDoorJh00
import Derived.Test.YtnfdfiholcelaaaGreatDoorJh01
set_option maxRecDepth 100000
set_option maxHeartbeats 20000000
namespace Go.Proofs.YtnfdfiholcelaaaGreatDoor.Plain
def bk(R f:Int):Int:=if _h:0<f∧0<R then f+bk R (f-R) else 0
termination_by f.toNat
decreasing_by omega
theorem bk_pos{R f:Int}(hR:0<R)(hf:0<f):bk R f=f+bk R (f-R):=by
 rw[bk,dif_pos ⟨hf,hR⟩]
theorem Zex{R f:Int}(hf:f≤0):bk R f=0:=by
 rw[bk,dif_neg (by omega)]
theorem Zbs(R f:Int):0≤bk R f:=by
 rw[bk]
 split
 · rename_i h
   have:=Zbs R (f-R)
   omega
 · exact Int.le_refl _
termination_by f.toNat
decreasing_by omega
theorem Zge{R f g:Int}(hR:0<R)(h:f≤g):bk R f≤bk R g:=by
 by_cases hf:0<f
 · rw[bk_pos hR hf,bk_pos (f:=g) hR (by omega)];have:=Zge (R:=R) (f:=f-R) (g:=g-R) hR (by omega)
   omega
 · rw[Zex (by omega)];exact Zbs R g
termination_by f.toNat
decreasing_by omega
theorem bk_le{R f:Int}(hR:0<R)(hf:0<f):bk R f≤f*f:=by
 rw[bk_pos hR hf]
 by_cases h:0<f-R
 · have i:=bk_le (R:=R) (f:=f-R) hR h;have h1:(f-R)*(f-R)≤(f-1)*(f-1):=Int.mul_le_mul (by omega) (by omega) (by omega) (by omega)
   have h2:(f-1)*(f-1)=f*f-f-f+1:=by rw[Int.sub_mul,Int.mul_sub];omega
   omega
 · rw[Zex (by omega)];have:f*1≤f*f:=Int.mul_le_mul_of_nonneg_left (by omega) (by omega)
   omega
termination_by f.toNat
decreasing_by omega
theorem bk_lt{R f:Int}(hR:0<R)(h:f≤6000):bk R f≤36000000:=by
 have h0:=Zge hR h;have h1:=bk_le (R:=R) (f:=6000) hR (by omega)
 omega
theorem bk_twice{R f:Int}(hR:0<R)(hf:0<f):2*bk R f=((f-1)/R+1)*(f+(f-((f-1)/R)*R)):=by
 rw[bk_pos hR hf]
 by_cases h:0<f-R
 · have i:=bk_twice (R:=R) (f:=f-R) hR h
   have e:(f-1)/R=(f-R-1)/R+1:=by
    rw[show f-1=(f-R-1)+R by omega,Int.add_ediv_of_dvd_right (Int.dvd_refl R),Int.ediv_self (by omega)]
   rw[Int.mul_add,i,e];generalize (f-R-1)/R=k
   have e1:(k+1)*R=k*R+R:=by rw[Int.add_mul];omega
   rw[e1];generalize hq:k*R=q
   have e2:(k+1)*(f-R+(f-R-q))=(k+1)*(f+(f-(q+R)))-(k+1)*R:=by
    rw[←Int.mul_sub];congr 1;omega
   have e3:(k+1+1)*(f+(f-(q+R)))=(k+1)*(f+(f-(q+R)))+(f+(f-(q+R))):=by
    rw[Int.add_mul (k+1) 1,Int.one_mul]
   rw[e2,e3,e1,hq]
   omega
 · rw[Zex (by omega),Int.ediv_eq_zero_of_lt (by omega) (by omega)]
   omega
termination_by f.toNat
decreasing_by omega
theorem bk_half{R f:Int}(hR:0<R)(hf:0<f):((f-1)/R+1)*(f+(f-((f-1)/R)*R))/2=bk R f:=by
 rw[←bk_twice hR hf];omega
def IsHi(R p lo hi room h:Int):Prop:=lo≤h∧h≤hi∧(h=lo∨bk R (h+p)≤room)∧∀s,h<s→s≤hi→room<bk R (s+p)
theorem IsHi.only{R p lo hi room h k:Int}(H:IsHi R p lo hi room h)(K:IsHi R p lo hi room k):h=k:=by
 obtain⟨a1,a2,a3,a4⟩:=H;obtain⟨b1,b2,b3,b4⟩:=K
 rcases Int.lt_trichotomy h k with c|c|c
 · have:=a4 k c b2
   omega
 · exact c
 · have:=b4 h c a2
   omega
def grB(L H N P M R:Int):Bool:=decide (-100000≤L)&&decide (L≤100000)&&(decide (-100000≤H)&&decide (H≤100000))&&(decide (0≤N)&&decide (N≤1000))&&(decide (0≤P)&&decide (P≤2000))&&(decide (1≤M)&&decide (M≤4000))&&(decide (1≤R)&&decide (R≤M))
def gfB(L H N P M R:Int):Bool:=decide (P≤M)&&decide (P≤R)&&decide (2*(N+bk R (M+P))≤H-L)
def grE(L H N P M R:Int):Int:=if grB L H N P M R then(if gfB L H N P M R then 0 else 3) else 1
structure GR (L H N P M R:Int):Prop where
 l0:-100000≤L
 l1:L≤100000
 h0:-100000≤H
 h1:H≤100000
 n0:0≤N
 n1:N≤1000
 p0:0≤P
 p1:P≤2000
 m0:1≤M
 m1:M≤4000
 r0:1≤R
 r1:R≤M
theorem grB_true{L H N P M R:Int}(h:grB L H N P M R=true):GR L H N P M R:=by
 simp only[grB,Bool.and_eq_true,decide_eq_true_eq] at h
 constructor<;>omega
structure GOK (L H N P M R:Int):Prop extends GR L H N P M R where
 pm:P≤M
 pr:P≤R
 room:2*(N+bk R (M+P))≤H-L
theorem grE_ok{L H N P M R:Int}(h:grE L H N P M R=0):GOK L H N P M R:=by
 unfold grE at h
 by_cases h1:grB L H N P M R=true
 · rw[if_pos h1] at h
   by_cases h2:gfB L H N P M R=true
   · have a:=grB_true h1;simp only[gfB,Bool.and_eq_true,decide_eq_true_eq] at h2;exact⟨a,h2.1.1,h2.1.2,h2.2⟩
   · rw[if_neg h2] at h;cases h
 · rw[if_neg h1] at h;cases h
theorem no_cross{L H N P M R lo hi y a b:Int}(g:GOK L H N P M R)(hl:-M≤lo)(hh:hi≤M)
 (A:IsHi R P (-hi) (-lo) (y-N-L) a) (B:IsHi R P lo hi (H-N-y) b):-a≤b:=by
 obtain⟨a1,a2,a3,a4⟩:=A;obtain⟨b1,b2,b3,b4⟩:=B;have:=g.room
 rcases Int.lt_or_le b (-a) with c|c
 · have u:=a4 (a+1) (by omega) (by omega);have v:=b4 (b+1) (by omega) (by omega);have m1:=Zge (R:=R) (f:=a+1+P) (g:=M+P) (by have:=g.r0;omega) (by omega);have m2:=Zge (R:=R) (f:=b+1+P) (g:=M+P) (by have:=g.r0;omega) (by omega)
   omega
 · exact c
theorem one_side{H N P M R x y u s lo hi b q:Int}(hR:1≤R)(hPM:P≤M)(hlo:lo=-M∨lo=q-R)
 (hx:x≤H) (hq:x+bk R (q-R+P)≤H) (hy:x-N≤y) (B:IsHi R P lo hi (H-N-y) b) (hs:s≤b) (hl:lo≤s) (hu:u≤P):
 x+s+u≤H∧x+s+u+bk R (s-R+P)≤H:=by
 obtain⟨b1,b2,b3,b4⟩:=B
 have key:x+bk R (s+P)≤H∨s+P≤0:=by
  rcases b3 with c|c
  · have:s=lo:=by omega
    rcases hlo with d|d
    · right;omega
    · left;rw[this,d];exact hq
  · left
    have:=Zge (R:=R) (f:=s+P) (g:=b+P) (by omega) (by omega)
    omega
 have n:=Zbs R (s-R+P)
 by_cases h:s+P≤0
 · rw[Zex (f:=s-R+P) (by omega)]
   omega
 · have k:x+bk R (s+P)≤H:=by omega
   rw[bk_pos (by omega) (by omega),show s+P-R=s-R+P by omega] at k
   omega
structure Kept (L H P M R x q:Int):Prop where
 lo:L≤x
 hi:x≤H
 q0:-M≤q
 q1:q≤M
 up:x+bk R (q-R+P)≤H
 dn:-x+bk R (-q-R+P)≤-L
theorem Kept.start{L H N P M R x:Int}(g:GOK L H N P M R)(h0:L≤x)(h1:x≤H):Kept L H P M R x 0:=by
 have:=g.m0;have:=g.pr;refine⟨h0,h1,by omega,by omega,?_,?_⟩
 · rw[Zex (by omega)];omega
 · rw[Zex (by omega)];omega
def Zco(M R q:Int):Int:=if q-R≤-M then -M else q-R
def Zcp(M R q:Int):Int:=if M≤q+R then M else q+R
theorem canLo_or(M R q:Int):Zco M R q=-M∨Zco M R q=q-R:=by unfold Zco;split<;>simp
theorem canHi_or(M R q:Int):-Zcp M R q=-M∨-Zcp M R q=-q-R:=by unfold Zcp;split<;>omega
theorem can_le{M R q:Int}(hR:1≤R)(hM:1≤M)(h0:-M≤q)(h1:q≤M):Zco M R q≤Zcp M R q∧-M≤Zco M R q∧Zcp M R q≤M∧q-R≤Zco M R q∧Zcp M R q≤q+R:=by
 unfold Zco Zcp;split<;>split<;>omega
def clp(x lo hi:Int):Int:=if hi<(if x<lo then lo else x) then hi else(if x<lo then lo else x)
theorem clp_in{x lo hi:Int}(h:lo≤hi):lo≤clp x lo hi∧clp x lo hi≤hi:=by unfold clp;split<;>split<;>omega
theorem Kept.step{L H N P M R x q off u a b wt:Int}(g:GOK L H N P M R)(k:Kept L H P M R x q)(ho:-N≤off)(ho':off≤N)(hu:-P≤u)(hu':u≤P)
 (A:IsHi R P (-Zcp M R q) (-Zco M R q) (x+off-N-L) a) (B:IsHi R P (Zco M R q) (Zcp M R q) (H-N-(x+off)) b):
 Kept L H P M R (x+clp wt (-a) b+u) (clp wt (-a) b)∧-R≤clp wt (-a) b-q∧clp wt (-a) b-q≤R:=by
 have c:=can_le g.r0 g.m0 k.q0 k.q1;have x1:=no_cross g c.2.1 c.2.2.1 A B;have s:=clp_in (x:=wt) x1;generalize clp wt (-a) b=s0 at s;have U:=one_side (u:=u) (s:=s0) g.r0 g.pm (canLo_or M R q) k.hi k.up (by omega) B s.2 (by have:=A.2.1;omega) hu';have D:=one_side (H:=-L) (N:=N) (x:=-x) (y:=-(x+off)) (u:=-u) (s:=-s0) (q:=-q) g.r0 g.pm (canHi_or M R q) (by have:=k.lo;omega) k.dn (by omega)
  (by rw[show -L-N- -(x+off)=x+off-N-L by omega];exact A) (by omega) (by have:=B.2.1;omega) (by omega)
 have a2:=A.2.1;have b2:=B.2.1;refine⟨⟨by omega,U.1,by omega,by omega,U.2,by omega⟩,by omega,by omega⟩
theorem isHi_count{R p lo hi room:Int}{n:Nat}(hR:1≤R)(hn:hi-lo+1=(n:Int))(h:lo≤hi):
 IsHi R p lo hi room (lo+(if((List.range n).countP (fun i:Nat=>decide (bk R (lo+(i:Int)+p)≤room)):Int)-1≤0 then 0 else((List.range n).countP (fun i:Nat=>decide (bk R (lo+(i:Int)+p)≤room)):Int)-1)):=by
 have key:∀m:Nat,∃c:Nat,(List.range m).countP (fun i:Nat=>decide (bk R (lo+(i:Int)+p)≤room))=c∧c≤m∧(∀i,i<c→bk R (lo+(i:Int)+p)≤room)∧(∀i,c≤i→i<m→room<bk R (lo+(i:Int)+p)):=by
  intro m
  induction m with
  |zero=>exact⟨0,rfl,Nat.le_refl _,fun i hi=>absurd hi (Nat.not_lt_zero _),fun i _ h2=>absurd h2 (Nat.not_lt_zero _)⟩
  |succ m ih=>
   obtain⟨c,e,cm,f,t⟩:=ih;rw[List.range_succ,List.countP_append,e]
   by_cases hb:bk R (lo+(m:Int)+p)≤room
   · have all:∀i,i<m+1→bk R (lo+(i:Int)+p)≤room:=by
      intro i hi;have:=Zge (R:=R) (f:=lo+(i:Int)+p) (g:=lo+(m:Int)+p) (by omega) (by omega)
      omega
     have hc:c=m:=by
      rcases Nat.lt_or_ge c m with d|d
      · have:=t c (Nat.le_refl _) d;have:=all c (by omega)
        omega
      · omega
     subst hc;refine⟨c+1,by simp[hb],Nat.le_refl _,all,fun i h1 h2=>by omega⟩
   · refine⟨c,by simp[hb],by omega,f,fun i h1 h2=>?_⟩
     by_cases hi:i<m
     · exact t i h1 hi
     · have:i=m:=by omega
       subst this;omega
 obtain⟨c,e,cm,f,t⟩:=key n;rw[e]
 have up:∀s,lo+(c:Int)≤s→s≤hi→room<bk R (s+p):=by
  intro s h1 h2;have:=t (s-lo).toNat (by omega) (by omega);rw[show lo+((s-lo).toNat:Int)+p=s+p by omega] at this;exact this
 by_cases hc:c=0
 · subst hc;rw[if_pos (by omega)];exact⟨by omega,by omega,Or.inl (by omega),fun s h1 h2=>up s (by omega) h2⟩
 · have q:(if(c:Int)-1≤0 then(0:Int) else(c:Int)-1)=(c:Int)-1:=by split<;>omega
   rw[q];refine⟨by omega,by omega,Or.inr ?_,fun s h1 h2=>up s (by omega) h2⟩;have:=f (c-1) (by omega);rw[show lo+((c-1:Nat):Int)+p=lo+((c:Int)-1)+p by omega] at this;exact this
end Go.Proofs.YtnfdfiholcelaaaGreatDoor.Plain
namespace Go.Proofs.YtnfdfiholcelaaaGreatDoor
open Go.RowKit Plain Tryz
theorem Zfn(L H N P M R s:Int)(p0:0≤P)(p1:P≤2000)(r0:1≤R)(r1:R≤4000)(s0:-4000≤s)(s1:s≤4000)(w:World):
 Calls prog 39 #[.agg #[Vi L,Vi H,Vi N,Vi P,Vi M,Vi R],Vi s] w fun e w'=>e=.returned (Vi (bk R (s+P)))∧w'=w.alloc (.cells #[Vi L,Vi H,Vi N,Vi P,Vi M,Vi R] 99):=by
 have hm:Hid (bk R (s+P)≤36000000):=bk_lt (by omega) (by omega);obtain⟨tot,ht⟩:∃t,Hid (bk R (s+P)=t):=⟨_,rfl⟩;rw[ht.out] at hm⊢
 go_enter func39,ntmps39
 go_wp2
 go_loop [1,5] (fun u v=>∃t n:Int,u=Vi t∧v=Vi n∧t≤s∧-8000≤t∧0≤n∧n+bk R (t+P)=tot) (fun u _=>(intOf u+8000).toNat)
 case atStart=>exact⟨s,0,rfl,rfl,by omega,by omega,by omega,by rw[ht.out];omega⟩
 case round=>
  obtain⟨t,n,rfl,rfl,t0,t1,n0,hn0⟩:=hrel;have hn:Hid (n+bk R (t+P)=tot):=hn0;clear hn0
  have hn1:n≤36000000:=by have:=Zbs R (t+P);have:=hn.out;have:=hm.out;omega
  by_cases hgo:0<t+P
  · have hk:Hid (n+t+P+bk R (t-R+P)=tot):=by
     have e:=bk_pos (R:=R) (f:=t+P) (by omega) hgo;rw[show t+P-R=t-R+P by omega] at e;have:=hn.out
     show _=_
     omega
    go_wp2
    go_round
    case rel=>exact⟨t-R,n+t+P,rfl,rfl,by omega,by omega,by omega,hk.out⟩
    case measure=>simp[intOf];omega
  · have hk:Hid (n=tot):=by
     have e:=Zex (R:=R) (f:=t+P) (by omega);have:=hn.out
     show _=_
     omega
    go_wp2;go_ret;exact⟨by rw[hk.out];rfl,rfl⟩
theorem brake_ex(L H N P M R s:Int)(p0:0≤P)(p1:P≤2000)(r0:1≤R)(r1:R≤4000)(s0:-4000≤s)(s1:s≤4000)(w:World):
 Calls prog 227 #[.agg #[Vi L,Vi H,Vi N,Vi P,Vi M,Vi R],Vi s] w fun e w'=>e=.returned (Vi (bk R (s+P)))∧w'=w.alloc (.cells #[Vi L,Vi H,Vi N,Vi P,Vi M,Vi R] 99):=by
 by_cases hgo:s+P≤0
 · rw[Zex hgo]
   go_enter func227,ntmps227
   go_wp2;go_ret;exact⟨rfl,rfl⟩
 · have hR:(R==0)=false:=by simp;omega
   have hk:=bk_half (R:=R) (f:=s+P) (by omega) (by omega);rw[←Int.tdiv_eq_ediv_of_nonneg (a:=s+P-1) (by omega)] at hk;have q0:0≤(s+P-1).tdiv R:=Int.tdiv_nonneg (by omega) (by omega)
   have q1:(s+P-1).tdiv R≤6000:=by
    rw[Int.tdiv_eq_ediv_of_nonneg (by omega)];have:=Int.ediv_le_self (a:=s+P-1) R (by omega)
    omega
   have q2:(s+P-1).tdiv R*R≤s+P-1:=by
    rw[Int.tdiv_eq_ediv_of_nonneg (by omega)];exact Int.ediv_mul_le _ (by omega)
   generalize hkk:(s+P-1).tdiv R=k at *;have q3:0≤k*R:=Int.mul_nonneg q0 (by omega)
   have q4:k+1-1=k:=by omega
   have v1:=Wr (k*R);have q5:0≤(k+1)*(s+P+(s+P-k*R)):=Int.mul_nonneg (by omega) (by omega);have q6:(k+1)*(s+P+(s+P-k*R))≤6001*12000:=Int.mul_le_mul (by omega) (by omega) (by omega) (by omega);have v2:=Wr ((k+1)*(s+P+(s+P-k*R)))
   have HK:Hid (((k+1)*(s+P+(s+P-k*R))).tdiv 2=bk R (s+P)):=by
    show _=_
    rw[Int.tdiv_eq_ediv_of_nonneg q5];exact hk
   have w2:((k+1)*(s+P+(s+P-k*R))).tdiv 2≤100000000∧0≤((k+1)*(s+P+(s+P-k*R))).tdiv 2:=by
    rw[Int.tdiv_eq_ediv_of_nonneg q5];omega
   obtain⟨w20,w21⟩:=w2;clear hk q4
   go_enter func227,ntmps227
   go_wp2;go_ret;exact⟨by rw[←HK.out];rfl,rfl⟩
def AxV(w:World)(B:Nat)(v:Nat→Value):Prop:=∀j,j<15→w.cell? (Ad B j)=some (v j)∧w.frozen? (Ad B j)=false
def updV(v:Nat→Value)(k:Nat)(x:Value)(j:Nat):Value:=if j=k then x else v j
theorem Zil(v:Nat→Value)(k:Nat)(x:Value):updV v k x k=x:=if_pos rfl
theorem Zcv{v:Nat→Value}{k j:Nat}{x y:Value}(h:v j=y)(hj:j≠k):updV v k x j=y:=(if_neg hj).trans h
theorem AxV.lt{w:World}{B:Nat}{v:Nat→Value}(h:AxV w B v):B<w.heap.size:=World.block_lt_of_cell? w ⟨B,0,none⟩ (h 0 (by omega)).1
theorem AxV.later{w w':World}{B:Nat}{v:Nat→Value}(h:AxV w B v)(hb:Below w.heap.size w w'):AxV w' B v:=fun j hj=>⟨cell_later hb (h j hj).1,(hb.frozen (p:=⟨B,j,none⟩) h.lt).trans (h j hj).2⟩
theorem AxV.dk{w w':World}{O B:Nat}{v:Nat→Value}(h:AxV w B v)(hk:DK O w w')(hB:B≠O):AxV w' B v:=fun j hj=>
 ⟨hk.cell (p:=⟨B,j,none⟩) hB (h j hj).1,(World.frozen?_of_block (w:=w) (a:=⟨B,j,none⟩) (hk.block B h.lt hB)).trans (h j hj).2⟩
theorem AxV.put{w:World}{B:Nat}{v:Nat→Value}(h:AxV w B v)(k:Nat)(x:Value):AxV (w.setCell (Ad B k) x) B (updV v k x):=fun j hj=>by
 refine⟨?_,by simpa[go_sem] using(h j hj).2⟩
 by_cases e:j=k
 · subst e;rw[Zil];exact Zao (h j hj).1
 · rw[Zcv rfl e];exact Zad (h j hj).1 (Zai (Ne.symm e))
theorem AxV.set{w:World}{B C q:Nat}{v:Nat→Value}{x:Value}(h:AxV w B v)(hC:C≠B):AxV (w.setCell (Ad C q) x) B v:=fun j hj=>
 ⟨Zad (h j hj).1 (Zau hC),by simpa[go_sem] using(h j hj).2⟩
theorem Dc.set{w:World}{O C q:Nat}{a:Option Addr}{l:List Int}{cap n:Nat}{x:Value}(h:Dc w O a l cap n)(hC:C≠O)(hl:∀b off,a=some (Ad b off)→l≠[]→b≠C):Dc (w.setCell (Ad C q) x) O a l cap n:=
 ⟨⟨Zad h.1.1 (Zau hC),Zad h.1.2 (Zau hC)⟩,by simpa[go_sem] using h.2.1,h.2.2.1.dset hl,h.2.2.2⟩
theorem DK.sets{O C q K:Nat}{w0 w:World}{x:Value}(h:DK O w0 w)(hK:w0.heap.size=K)(hC:K≤C):DK O w0 (w.setCell (Ad C q) x):=
 ⟨h.os,h.tape,h.output,by simpa using h.size,fun k hk ho=>(Below.heap_setCell w ⟨C,q,none⟩ x k (by simp;omega)).trans (h.block k hk ho)⟩
def zV(j:Nat):Value:=if j=12 then .slice none 0 0 else if j=13 then .slice none 0 0 else Vi 0
def Zhe(a:Option Addr)(l:List Int)(K:Nat):Prop:=∀b off,a=some (Ad b off)→l≠[]→b<K
def Gk(w0 w:World)(Z B:Nat)(G:List (Addr×Value)):Prop:=∀x∈G,w.cell? x.1=some x.2∧w0.heap.size≤x.1.block∧x.1.block≠Z∧x.1.block≠B
def AXS(w0 w:World)(O Z B:Nat)(a:Option Addr)(l:List Int)(cap n:Nat)(v:Nat→Value)(G:List (Addr×Value)):Prop:=
 Dc w O a l cap n∧AxV w B v∧AxV w Z zV∧DK O w0 w∧(O<w0.heap.size∧w0.heap.size≤Z∧Z<B∧Zhe a l w0.heap.size)∧Gk w0 w Z B G
theorem AXS.later{w0 w w':World}{O Z B:Nat}{a l cap n v G}(h:AXS w0 w O Z B a l cap n v G)(hb:Below w.heap.size w w'):AXS w0 w' O Z B a l cap n v G:=
 ⟨h.1.later hb,h.2.1.later hb,h.2.2.1.later hb,h.2.2.2.1.trans (DK.of_below hb),h.2.2.2.2.1,fun x hx=>⟨cell_later hb (h.2.2.2.2.2 x hx).1,(h.2.2.2.2.2 x hx).2⟩⟩
theorem AXS.dk{w0 w w':World}{O Z B:Nat}{a l cap n m v G}(h:AXS w0 w O Z B a l cap n v G)(hD:Dc w' O a l cap m)(hk:DK O w w'):AXS w0 w' O Z B a l cap m v G:=
 ⟨hD,h.2.1.dk hk (by have:=h.2.2.2.2.1;omega),h.2.2.1.dk hk (by have:=h.2.2.2.2.1;omega),h.2.2.2.1.trans hk,h.2.2.2.2.1,fun x hx=>⟨hk.cell (by have:=h.2.2.2.2.1;have:=(h.2.2.2.2.2 x hx).2.1;omega) (h.2.2.2.2.2 x hx).1,(h.2.2.2.2.2 x hx).2⟩⟩
theorem gset{w:World}{C q:Nat}{x:Addr}{y c:Value}(h:w.cell? x=some c)(hb:x.block≠C):(w.setCell (Ad C q) y).cell? x=some c:=
 (World.cell?_setCell_other _ _ _ _ (fun e=>hb (congrArg Addr.block e).symm)).trans h
theorem AXS.put{w0 w:World}{O Z B:Nat}{a l cap n v G}(h:AXS w0 w O Z B a l cap n v G)(k:Nat)(x:Value):AXS w0 (w.setCell (Ad B k) x) O Z B a l cap n (updV v k x) G:=by
 obtain⟨h1,h2,h3,h4,⟨h5,h6,h7,h8⟩,h9⟩:=h;exact⟨h1.set (by omega) (fun b off e hl=>by have:=h8 b off e hl;omega),h2.put k x,h3.set (by omega),h4.sets rfl (by omega),⟨h5,h6,h7,h8⟩,fun y hy=>⟨gset (h9 y hy).1 (h9 y hy).2.2.2,(h9 y hy).2⟩⟩
theorem AXS.grow{w0 w:World}{O Z B:Nat}{a l cap n v G}(h:AXS w0 w O Z B a l cap n v G)(x y:Int)(t:TypeId):AXS w0 (w.alloc (.cells #[Vi x,Vi y] t)) O Z B a l cap n v ((⟨w.heap.size,0,none⟩,Vi x)::(⟨w.heap.size,1,none⟩,Vi y)::G):=by
 have k:=h.later (Zaa w (.cells #[Vi x,Vi y] t));have hZ:=h.2.2.1.lt;have hB:=h.2.1.lt;have hs:=h.2.2.2.1.size;refine⟨k.1,k.2.1,k.2.2.1,k.2.2.2.1,k.2.2.2.2.1,fun q hq=>?_⟩
 rcases List.mem_cons.1 hq with rfl|hq
 · exact⟨by simp[go_sem],hs,by simp;omega,by simp;omega⟩
 · rcases List.mem_cons.1 hq with rfl|hq
   · exact⟨by simp[go_sem],hs,by simp;omega,by simp;omega⟩
   · exact k.2.2.2.2.2 q hq
theorem ax_new(w:World)(s t:Int)(ty:TypeId):AxV (w.alloc (.cells #[Vi 0,Vi 0,Vi 0,Vi 0,Vi s,Vi t,Vi 0,Vi 0,Vi 0,Vi 0,Vi 0,Vi 0,.slice none 0 0,.slice none 0 0,Vi 0] ty)) w.heap.size (updV (updV zV 4 (Vi s)) 5 (Vi t)):=by
 intro j hj;refine⟨?_,by simp[go_sem]⟩
 rcases(show j=0∨j=1∨j=2∨j=3∨j=4∨j=5∨j=6∨j=7∨j=8∨j=9∨j=10∨j=11∨j=12∨j=13∨j=14 by omega) with rfl|rfl|rfl|rfl|rfl|rfl|rfl|rfl|rfl|rfl|rfl|rfl|rfl|rfl|rfl<;>simp[go_sem,updV,zV]
theorem ax_zero(w:World)(ty:TypeId):AxV (w.alloc (.cells #[Vi 0,Vi 0,Vi 0,Vi 0,Vi 0,Vi 0,Vi 0,Vi 0,Vi 0,Vi 0,Vi 0,Vi 0,.slice none 0 0,.slice none 0 0,Vi 0] ty)) w.heap.size zV:=by
 intro j hj;refine⟨?_,by simp[go_sem]⟩
 rcases(show j=0∨j=1∨j=2∨j=3∨j=4∨j=5∨j=6∨j=7∨j=8∨j=9∨j=10∨j=11∨j=12∨j=13∨j=14 by omega) with rfl|rfl|rfl|rfl|rfl|rfl|rfl|rfl|rfl|rfl|rfl|rfl|rfl|rfl|rfl<;>simp[go_sem,zV]
def IntV(v:Nat→Value):Prop:=∀j,j<15→j≠12→j≠13→∃x,v j=Vi x
theorem IntV.zero:IntV zV:=fun j _ h1 h2=>⟨0,by unfold zV;rw[if_neg h1,if_neg h2]⟩
theorem IntV.put{v:Nat→Value}(h:IntV v)(k:Nat)(x:Int):IntV (updV v k (Vi x)):=fun j hj h1 h2=>by
 by_cases e:j=k
 · subst e;exact⟨x,Zil _ _ _⟩
 · obtain⟨y,hy⟩:=h j hj h1 h2;exact⟨y,Zcv hy e⟩
theorem IntV.line{v:Nat→Value}(h:IntV v)(x y:Value):IntV (updV (updV v 12 x) 13 y):=fun j hj h1 h2=>by
 obtain⟨z,hz⟩:=h j hj h1 h2;exact⟨z,Zcv (Zcv hz h1) h2⟩
structure AxOK (a0 a1 a2 a3 a4 a5 a6 a7 a10:Int):Prop where
 lo:-140000000≤a0
 lh:a0≤a1
 hi:a1≤100000
 n0:0≤a2
 n1:a2≤1000
 p0:0≤a3
 p1:a3≤1000
 s0:2≤a4
 s1:a4≤4
 t0:1≤a5
 t1:a5≤1000
 r0:1≤a6
 r1:a6≤a5
 k0:0≤a7
 k1:a7≤a5
 w0:1≤a10
 w1:a10≤10
structure AxK (a0 a1 a2 a3 a4 a5 a6 a7 a8 a9 a10 a11 a14:Int):Prop where
 lo:-100000≤a0
 lz:a0≤0
 hz:0≤a1
 hi:a1≤100000
 n0:0≤a2
 n1:a2≤1000
 p0:0≤a3
 p1:a3≤1000
 s0:2≤a4
 s1:a4≤4
 t0:1≤a5
 t1:a5≤1000
 r0:1≤a6
 r1:a6≤a5
 k0:0≤a7
 k1:a7≤a5
 l0:2*a2≤a8
 l1:a8≤2040
 c0:1≤a9
 c1:a9≤10
 w0:1≤a10
 w1:a10≤10
 u0:0≤a11
 u1:a11≤1000
 b0:0≤a14
 b1:a14≤65536
 pr:a3+a7≤(a4-1)*a6
 room:2*(a2+bk ((a4-1)*a6) ((a4-1)*a5+(a3+a7)))≤a1-a0
theorem AxK.ok{a0 a1 a2 a3 a4 a5 a6 a7 a8 a9 a10 a11 a14:Int}(h:AxK a0 a1 a2 a3 a4 a5 a6 a7 a8 a9 a10 a11 a14):AxOK a0 a1 a2 a3 a4 a5 a6 a7 a10:=by
 have:=h.lo;have:=h.lz;have:=h.hz;have:=h.hi;exact⟨by omega,by omega,by omega,h.n0,h.n1,h.p0,h.p1,h.s0,h.s1,h.t0,h.t1,h.r0,h.r1,h.k0,h.k1,h.w0,h.w1⟩
def GL(w:World)(G1 G2:Nat)(x y z:Int):Prop:=(w.cell? (Ad G1 0)=some (Vi 0)∧w.cell? (Ad G1 1)=some (Vi x)∧w.cell? (Ad G2 0)=some (Vi y)∧w.cell? (Ad G2 1)=some (Vi z))∧(100≤x∧x≤999)∧(0≤y∧y≤65536)∧0≤z∧z≤299
theorem GL.later{w w':World}{G1 G2:Nat}{x y z:Int}(h:GL w G1 G2 x y z)(hb:Below w.heap.size w w'):GL w' G1 G2 x y z:=
 ⟨⟨cell_later hb h.1.1,cell_later hb h.1.2.1,cell_later hb h.1.2.2.1,cell_later hb h.1.2.2.2⟩,h.2⟩
theorem bk_all{R P:Int}(hR:0<R)(p0:0≤P)(p1:P≤R):bk R (R+P)≤R+2*P:=by
 rw[bk_pos hR (by omega),show R+P-R=P by omega]
 by_cases h:0<P
 · rw[bk_pos hR h,Zex (by omega)];omega
 · rw[Zex (by omega)];omega
def Ls(v:Nat→Value)(L:List Value):Prop:=∀j,j<15→L[j]?=some (v j)
theorem Ls.at{v:Nat→Value}{L:List Value}(h:Ls v L){j:Nat}{x:Value}(e:L[j]?=some x)(hj:j<15:=by decide):v j=x:=Option.some.inj ((h j hj).symm.trans e)
theorem Ls.put{v:Nat→Value}{L:List Value}(h:Ls v L)(k:Nat)(x:Value):Ls (updV v k x) (L.set k x):=fun j hj=>by
 have hl:j<L.length:=(List.getElem?_eq_some_iff.1 (h j hj)).1
 by_cases e:j=k
 · subst e;rw[Zil,List.getElem?_set_self hl]
 · rw[Zcv rfl e,List.getElem?_set_ne (Ne.symm e)];exact h j hj
theorem ls_zero:Ls zV [Vi 0,Vi 0,Vi 0,Vi 0,Vi 0,Vi 0,Vi 0,Vi 0,Vi 0,Vi 0,Vi 0,Vi 0,.slice none 0 0,.slice none 0 0,Vi 0]:=fun j hj=>by
 rcases(show j=0∨j=1∨j=2∨j=3∨j=4∨j=5∨j=6∨j=7∨j=8∨j=9∨j=10∨j=11∨j=12∨j=13∨j=14 by omega) with rfl|rfl|rfl|rfl|rfl|rfl|rfl|rfl|rfl|rfl|rfl|rfl|rfl|rfl|rfl<;>rfl
theorem AXS.ld{w0 w:World}{O Z B:Nat}{a l cap n v G}{L:List Value}(h:AXS w0 w O Z B a l cap n v G)(hL:Ls v L){j:Nat}{x:Value}(e:L[j]?=some x)(hj:j<15:=by decide):w.cell? (Ad B j)=some x:=by rw[(h.2.1 j hj).1,hL.at e hj]
theorem AXS.all{w0 w:World}{O Z B:Nat}{a l cap n v G}{x0 x1 x2 x3 x4 x5 x6 x7 x8 x9 x10 x11 x12 x13 x14:Value}(h:AXS w0 w O Z B a l cap n v G)(hL:Ls v [x0,x1,x2,x3,x4,x5,x6,x7,x8,x9,x10,x11,x12,x13,x14]):w.cell? (Ad B 0)=some x0∧w.cell? (Ad B 1)=some x1∧w.cell? (Ad B 2)=some x2∧w.cell? (Ad B 3)=some x3∧w.cell? (Ad B 4)=some x4∧w.cell? (Ad B 5)=some x5∧w.cell? (Ad B 6)=some x6∧w.cell? (Ad B 7)=some x7∧w.cell? (Ad B 8)=some x8∧w.cell? (Ad B 9)=some x9∧w.cell? (Ad B 10)=some x10∧w.cell? (Ad B 11)=some x11∧w.cell? (Ad B 12)=some x12∧w.cell? (Ad B 13)=some x13∧w.cell? (Ad B 14)=some x14:=
 ⟨h.ld hL rfl,h.ld hL rfl,h.ld hL rfl,h.ld hL rfl,h.ld hL rfl,h.ld hL rfl,h.ld hL rfl,h.ld hL rfl,h.ld hL rfl,h.ld hL rfl,h.ld hL rfl,h.ld hL rfl,h.ld hL rfl,h.ld hL rfl,h.ld hL rfl⟩
theorem AXS.zer{w0 w:World}{O Z B:Nat}{a l cap n v G}(h:AXS w0 w O Z B a l cap n v G):(w.cell? (Ad Z 0)=some (zV 0)∧w.frozen? (Ad Z 0)=false)∧(w.cell? (Ad Z 1)=some (zV 1)∧w.frozen? (Ad Z 1)=false)∧(w.cell? (Ad Z 2)=some (zV 2)∧w.frozen? (Ad Z 2)=false)∧(w.cell? (Ad Z 3)=some (zV 3)∧w.frozen? (Ad Z 3)=false)∧(w.cell? (Ad Z 4)=some (zV 4)∧w.frozen? (Ad Z 4)=false)∧(w.cell? (Ad Z 5)=some (zV 5)∧w.frozen? (Ad Z 5)=false)∧(w.cell? (Ad Z 6)=some (zV 6)∧w.frozen? (Ad Z 6)=false)∧(w.cell? (Ad Z 7)=some (zV 7)∧w.frozen? (Ad Z 7)=false)∧(w.cell? (Ad Z 8)=some (zV 8)∧w.frozen? (Ad Z 8)=false)∧(w.cell? (Ad Z 9)=some (zV 9)∧w.frozen? (Ad Z 9)=false)∧(w.cell? (Ad Z 10)=some (zV 10)∧w.frozen? (Ad Z 10)=false)∧(w.cell? (Ad Z 11)=some (zV 11)∧w.frozen? (Ad Z 11)=false)∧(w.cell? (Ad Z 12)=some (zV 12)∧w.frozen? (Ad Z 12)=false)∧(w.cell? (Ad Z 13)=some (zV 13)∧w.frozen? (Ad Z 13)=false)∧(w.cell? (Ad Z 14)=some (zV 14)∧w.frozen? (Ad Z 14)=false):=
 ⟨h.2.2.1 0 (by decide),h.2.2.1 1 (by decide),h.2.2.1 2 (by decide),h.2.2.1 3 (by decide),h.2.2.1 4 (by decide),h.2.2.1 5 (by decide),h.2.2.1 6 (by decide),h.2.2.1 7 (by decide),h.2.2.1 8 (by decide),h.2.2.1 9 (by decide),h.2.2.1 10 (by decide),h.2.2.1 11 (by decide),h.2.2.1 12 (by decide),h.2.2.1 13 (by decide),h.2.2.1 14 (by decide)⟩
def SlcV(v:Nat→Value):Prop:=(∃p l c,v 12=.slice p l c)∧∃p l c,v 13=.slice p l c
theorem SlcV.put{v:Nat→Value}(h:SlcV v)(k:Nat)(x:Value)(hk:12≠k)(hk':13≠k):SlcV (updV v k x):=by
 obtain⟨⟨p,l,c,e⟩,q,m,d,f⟩:=h;exact⟨⟨p,l,c,Zcv e hk⟩,q,m,d,Zcv f hk'⟩
def FZ(w0 w:World)(O Z:Nat)(a:Option Addr)(l:List Int)(cap n:Nat)(x:Nat→Value)(G:List (Addr×Value)):Prop:=
 Dc w O a l cap n∧AxV w Z x∧DK O w0 w∧(O<w0.heap.size∧w0.heap.size≤Z∧Zhe a l w0.heap.size)∧∀q∈G,w.cell? q.1=some q.2∧w0.heap.size≤q.1.block∧q.1.block≠Z
theorem FZ.put{w0 w:World}{O Z:Nat}{a l cap n x G}(h:FZ w0 w O Z a l cap n x G)(k:Nat)(y:Value):FZ w0 (w.setCell (Ad Z k) y) O Z a l cap n (updV x k y) G:=by
 obtain⟨h1,h2,h3,⟨h4,h5,h6⟩,h7⟩:=h;exact⟨h1.set (by omega) (fun b off e hl=>by have:=h6 b off e hl;omega),h2.put k y,h3.sets rfl (by omega),⟨h4,h5,h6⟩,fun q hq=>⟨gset (h7 q hq).1 (h7 q hq).2.2,(h7 q hq).2⟩⟩
theorem below_eq{w w':World}{o:Obj}(h:w'=w.alloc o):Below w.heap.size w w':=by rw[h];exact Zaa _ _
theorem fin15{w0 w:World}{O Z B:Nat}{a l cap n v G}(h:AXS w0 w O Z B a l cap n v G):∃U,U=(((((((((((((((w.setCell (Ad Z 0) (v 0)).setCell (Ad Z 1) (v 1)).setCell (Ad Z 2) (v 2)).setCell (Ad Z 3) (v 3)).setCell (Ad Z 4) (v 4)).setCell (Ad Z 5) (v 5)).setCell (Ad Z 6) (v 6)).setCell (Ad Z 7) (v 7)).setCell (Ad Z 8) (v 8)).setCell (Ad Z 9) (v 9)).setCell (Ad Z 10) (v 10)).setCell (Ad Z 11) (v 11)).setCell (Ad Z 12) (v 12)).setCell (Ad Z 13) (v 13)).setCell (Ad Z 14) (v 14))∧(∀j,j<15→U.cell? (Ad Z j)=some (v j))∧Dc U O a l cap n∧DK O w0 U∧∀q∈G,U.cell? q.1=some q.2∧w0.heap.size≤q.1.block∧q.1.block≠Z:=by
 have k:FZ w0 ((((((((((((((((w.setCell (Ad Z 0) (v 0)).setCell (Ad Z 1) (v 1)).setCell (Ad Z 2) (v 2)).setCell (Ad Z 3) (v 3)).setCell (Ad Z 4) (v 4)).setCell (Ad Z 5) (v 5)).setCell (Ad Z 6) (v 6)).setCell (Ad Z 7) (v 7)).setCell (Ad Z 8) (v 8)).setCell (Ad Z 9) (v 9)).setCell (Ad Z 10) (v 10)).setCell (Ad Z 11) (v 11)).setCell (Ad Z 12) (v 12)).setCell (Ad Z 13) (v 13)).setCell (Ad Z 14) (v 14))) O Z a l cap n ((updV (updV (updV (updV (updV (updV (updV (updV (updV (updV (updV (updV (updV (updV (updV zV 0 (v 0)) 1 (v 1)) 2 (v 2)) 3 (v 3)) 4 (v 4)) 5 (v 5)) 6 (v 6)) 7 (v 7)) 8 (v 8)) 9 (v 9)) 10 (v 10)) 11 (v 11)) 12 (v 12)) 13 (v 13)) 14 (v 14))) G:=
  (FZ.put (FZ.put (FZ.put (FZ.put (FZ.put (FZ.put (FZ.put (FZ.put (FZ.put (FZ.put (FZ.put (FZ.put (FZ.put (FZ.put (FZ.put (⟨h.1,h.2.2.1,h.2.2.2.1,⟨h.2.2.2.2.1.1,h.2.2.2.2.1.2.1,h.2.2.2.2.1.2.2.2⟩,fun q hq=>⟨(h.2.2.2.2.2 q hq).1,(h.2.2.2.2.2 q hq).2.1,(h.2.2.2.2.2 q hq).2.2.1⟩⟩:FZ w0 w O Z a l cap n zV G) 0 (v 0)) 1 (v 1)) 2 (v 2)) 3 (v 3)) 4 (v 4)) 5 (v 5)) 6 (v 6)) 7 (v 7)) 8 (v 8)) 9 (v 9)) 10 (v 10)) 11 (v 11)) 12 (v 12)) 13 (v 13)) 14 (v 14))
 refine⟨_,rfl,fun j hj=>?_,k.1,k.2.2.1,k.2.2.2.2⟩;rw[(k.2.1 j hj).1]
 rcases(show j=0∨j=1∨j=2∨j=3∨j=4∨j=5∨j=6∨j=7∨j=8∨j=9∨j=10∨j=11∨j=12∨j=13∨j=14 by omega) with rfl|rfl|rfl|rfl|rfl|rfl|rfl|rfl|rfl|rfl|rfl|rfl|rfl|rfl|rfl<;>simp[updV]
theorem fin15L{w0 w:World}{O Z B:Nat}{a l cap n v G}{x0 x1 x2 x3 x4 x5 x6 x7 x8 x9 x10 x11 x12 x13 x14:Value}(h:AXS w0 w O Z B a l cap n v G)(hL:Ls v [x0,x1,x2,x3,x4,x5,x6,x7,x8,x9,x10,x11,x12,x13,x14]):∃U,U=(((((((((((((((w.setCell (Ad Z 0) x0).setCell (Ad Z 1) x1).setCell (Ad Z 2) x2).setCell (Ad Z 3) x3).setCell (Ad Z 4) x4).setCell (Ad Z 5) x5).setCell (Ad Z 6) x6).setCell (Ad Z 7) x7).setCell (Ad Z 8) x8).setCell (Ad Z 9) x9).setCell (Ad Z 10) x10).setCell (Ad Z 11) x11).setCell (Ad Z 12) x12).setCell (Ad Z 13) x13).setCell (Ad Z 14) x14)∧(U.cell? (Ad Z 0)=some x0∧U.cell? (Ad Z 1)=some x1∧U.cell? (Ad Z 2)=some x2∧U.cell? (Ad Z 3)=some x3∧U.cell? (Ad Z 4)=some x4∧U.cell? (Ad Z 5)=some x5∧U.cell? (Ad Z 6)=some x6∧U.cell? (Ad Z 7)=some x7∧U.cell? (Ad Z 8)=some x8∧U.cell? (Ad Z 9)=some x9∧U.cell? (Ad Z 10)=some x10∧U.cell? (Ad Z 11)=some x11∧U.cell? (Ad Z 12)=some x12∧U.cell? (Ad Z 13)=some x13∧U.cell? (Ad Z 14)=some x14)∧Dc U O a l cap n∧DK O w0 U∧∀q∈G,U.cell? q.1=some q.2∧w0.heap.size≤q.1.block∧q.1.block≠Z:=by
 obtain rfl:v 0=x0:=hL.at rfl;obtain rfl:v 1=x1:=hL.at rfl;obtain rfl:v 2=x2:=hL.at rfl;obtain rfl:v 3=x3:=hL.at rfl;obtain rfl:v 4=x4:=hL.at rfl;obtain rfl:v 5=x5:=hL.at rfl;obtain rfl:v 6=x6:=hL.at rfl;obtain rfl:v 7=x7:=hL.at rfl;obtain rfl:v 8=x8:=hL.at rfl;obtain rfl:v 9=x9:=hL.at rfl;obtain rfl:v 10=x10:=hL.at rfl;obtain rfl:v 11=x11:=hL.at rfl;obtain rfl:v 12=x12:=hL.at rfl;obtain rfl:v 13=x13:=hL.at rfl;obtain rfl:v 14=x14:=hL.at rfl;obtain⟨U,hU,hz,r⟩:=fin15 h;exact⟨U,hU,⟨hz 0 (by decide),hz 1 (by decide),hz 2 (by decide),hz 3 (by decide),hz 4 (by decide),hz 5 (by decide),hz 6 (by decide),hz 7 (by decide),hz 8 (by decide),hz 9 (by decide),hz 10 (by decide),hz 11 (by decide),hz 12 (by decide),hz 13 (by decide),hz 14 (by decide)⟩,r⟩
theorem Zgy(O:Nat)(a:Option Addr)(l:List Int)(cap n:Nat)(x y z lo hi:Int)(hn:n≤1000000)(hl:l.length≤100)(hb:(lo≤x∧x≤hi)∧(lo≤y∧y≤hi)∧lo≤z∧z≤hi)(w:World)(hd:Dc w O a l cap n):
 Calls prog 70 #[.pointer (some (Ad O 0)),.slice (some (Ad w.heap.size 0)) 3 3] (w.alloc (.cells #[Vi x,Vi y,Vi z] 3)) fun e w'=>(∃q,e=.returned (Vi q)∧lo≤q∧q≤hi)∧Dc w' O a l cap (n+1)∧DK O w w':=by
 have hO:=hd.lt;refine(Zcx O w.heap.size a l cap n 3 [x,y,z] lo hi hn hl (by simp) (by simp) ?_ (by omega) _ (hd.later (Zaa _ _)) ?_).mono fun e w' h=>⟨h.1,h.2.1,(DK.of_below (Zaa _ _)).trans h.2.2.1⟩
 · intro k hk;simp only[List.length_cons,List.length_nil] at hk
   rcases(show k=0∨k=1∨k=2 by omega) with rfl|rfl|rfl
   · exact hb.1
   · exact hb.2.1
   · exact hb.2.2
 · intro k hk;simp only[List.length_cons,List.length_nil] at hk
   rcases(show k=0∨k=1∨k=2 by omega) with rfl|rfl|rfl<;>simp[go_sem]
theorem diceMost2(O:Nat)(a:Option Addr)(l:List Int)(cap n:Nat)(x y lo hi:Int)(hn:n≤1000000)(hl:l.length≤100)(hb:(lo≤x∧x≤hi)∧lo≤y∧y≤hi)(w:World)(hd:Dc w O a l cap n):
 Calls prog 70 #[.pointer (some (Ad O 0)),.slice (some (Ad w.heap.size 0)) 2 2] (w.alloc (.cells #[Vi x,Vi y] 3)) fun e w'=>(∃q,e=.returned (Vi q)∧lo≤q∧q≤hi)∧Dc w' O a l cap (n+1)∧DK O w w':=by
 have hO:=hd.lt;refine(Zcx O w.heap.size a l cap n 2 [x,y] lo hi hn hl (by simp) (by simp) ?_ (by omega) _ (hd.later (Zaa _ _)) ?_).mono fun e w' h=>⟨h.1,h.2.1,(DK.of_below (Zaa _ _)).trans h.2.2.1⟩
 · intro k hk;simp only[List.length_cons,List.length_nil] at hk
   rcases(show k=0∨k=1 by omega) with rfl|rfl
   · exact hb.1
   · exact hb.2
 · intro k hk;simp only[List.length_cons,List.length_nil] at hk
   rcases(show k=0∨k=1 by omega) with rfl|rfl<;>simp[go_sem]
theorem diceMost2k(O:Nat)(a:Option Addr)(l:List Int)(cap n K:Nat)(x y lo hi:Int)(hn:n≤1000000)(hl:l.length≤100)(hb:(lo≤x∧x≤hi)∧lo≤y∧y≤hi)(w:World)(hK:w.heap.size=K)(hd:Dc w O a l cap n):
 Calls prog 70 #[.pointer (some (Ad O 0)),.slice (some (Ad K 0)) 2 2] (w.alloc (.cells #[Vi x,Vi y] 3)) fun e w'=>(∃q,e=.returned (Vi q)∧lo≤q∧q≤hi)∧Dc w' O a l cap (n+1)∧DK O w w':=by
 subst hK;exact diceMost2 O a l cap n x y lo hi hn hl hb w hd
theorem keep15{u u':World}{B:Nat}{x0 x1 x2 x3 x4 x5 x6 x7 x8 x9 x10 x11 x12 x13 x14:Value}(hb:Below u.heap.size u u')(h:u.cell? (Ad B 0)=some x0∧u.cell? (Ad B 1)=some x1∧u.cell? (Ad B 2)=some x2∧u.cell? (Ad B 3)=some x3∧u.cell? (Ad B 4)=some x4∧u.cell? (Ad B 5)=some x5∧u.cell? (Ad B 6)=some x6∧u.cell? (Ad B 7)=some x7∧u.cell? (Ad B 8)=some x8∧u.cell? (Ad B 9)=some x9∧u.cell? (Ad B 10)=some x10∧u.cell? (Ad B 11)=some x11∧u.cell? (Ad B 12)=some x12∧u.cell? (Ad B 13)=some x13∧u.cell? (Ad B 14)=some x14):u'.cell? (Ad B 0)=some x0∧u'.cell? (Ad B 1)=some x1∧u'.cell? (Ad B 2)=some x2∧u'.cell? (Ad B 3)=some x3∧u'.cell? (Ad B 4)=some x4∧u'.cell? (Ad B 5)=some x5∧u'.cell? (Ad B 6)=some x6∧u'.cell? (Ad B 7)=some x7∧u'.cell? (Ad B 8)=some x8∧u'.cell? (Ad B 9)=some x9∧u'.cell? (Ad B 10)=some x10∧u'.cell? (Ad B 11)=some x11∧u'.cell? (Ad B 12)=some x12∧u'.cell? (Ad B 13)=some x13∧u'.cell? (Ad B 14)=some x14:=by
 obtain⟨h0,h1,h2,h3,h4,h5,h6,h7,h8,h9,h10,h11,h12,h13,h14⟩:=h;exact⟨cell_later hb h0,cell_later hb h1,cell_later hb h2,cell_later hb h3,cell_later hb h4,cell_later hb h5,cell_later hb h6,cell_later hb h7,cell_later hb h8,cell_later hb h9,cell_later hb h10,cell_later hb h11,cell_later hb h12,cell_later hb h13,cell_later hb h14⟩
theorem keepC{u u':World}{B j:Nat}{x:Value}(hb:Below u.heap.size u u')(h:u.cell? (Ad B j)=some x):u'.cell? (Ad B j)=some x:=cell_later hb h
theorem keepCs{u:World}{B j k:Nat}{x y:Value}(hk:k≠j)(h:u.cell? (Ad B j)=some x):(u.setCell (Ad B k) y).cell? (Ad B j)=some x:=Zad h (Zai hk)
theorem diceMost3d(O:Nat)(a:Option Addr)(l:List Int)(cap n:Nat)(x y z lo hi:Int)(hn:n≤1000000)(hl:l.length≤100)(hb:(lo≤x∧x≤hi)∧(lo≤y∧y≤hi)∧lo≤z∧z≤hi)(w:World)(hd:Dc w O a l cap n):
 Calls prog 70 #[.pointer (some (Ad O 0)),.slice (some (Ad w.heap.size 0)) 3 3] (w.alloc (.cells #[Vi x,Vi y,Vi z] 3)).drew fun e w'=>(∃q,e=.returned (Vi q)∧lo≤q∧q≤hi)∧Dc w' O a l cap (n+1)∧DK O w w':=by
 have hO:=hd.lt;refine(Zcx O w.heap.size a l cap n 3 [x,y,z] lo hi hn hl (by simp) (by simp) ?_ (by omega) _ ((hd.later (Zaa _ _)).later (Below.refl _ _).drew) ?_).mono fun e w' h=>⟨h.1,h.2.1,(DK.of_below (Zaa _ _).drew).trans h.2.2.1⟩
 · intro k hk;simp only[List.length_cons,List.length_nil] at hk
   rcases(show k=0∨k=1∨k=2 by omega) with rfl|rfl|rfl
   · exact hb.1
   · exact hb.2.1
   · exact hb.2.2
 · intro k hk;simp only[List.length_cons,List.length_nil] at hk
   rcases(show k=0∨k=1∨k=2 by omega) with rfl|rfl|rfl<;>simp[go_sem]
theorem mrun_min3(ts:Array TypeId)(t:TypeId)(p q r:Int)(w:World):(Builtin.min_ ts t #[Vi p,Vi q,Vi r]).run prog w=.ok (Vi (mnA (mnA p q) r)) w:=by
 unfold mnA
 by_cases h:q<p
 · rw[Int.min_eq_right (show q≤p by omega)]
   by_cases h2:r<q
   · rw[Int.min_eq_right (by omega)];simp[Builtin.min_,Builtin.min2,h,h2]
   · rw[Int.min_eq_left (by omega)];simp[Builtin.min_,Builtin.min2,h,h2]
 · rw[Int.min_eq_left (show p≤q by omega)]
   by_cases h2:r<p
   · rw[Int.min_eq_right (by omega)];simp[Builtin.min_,Builtin.min2,h,h2]
   · rw[Int.min_eq_left (by omega)];simp[Builtin.min_,Builtin.min2,h,h2]
theorem min3_bd{t c q:Int}(ht:1≤t)(hc:1≤c)(hq:1≤q)(ht':t≤1000):1≤mnA (mnA t c) q+1∧mnA (mnA t c) q+1≤1001∧mnA (mnA t c) q≤t∧mnA (mnA t c) q≤c:=by unfold mnA;omega
def adrop:Nat→Code→Code
 |n+1,.seq _ b=>adrop n b
 |_,c=>c
noncomputable def axisTail:Code:=adrop 14 (Tryz.f68.body.getD .skip)
theorem Zby{K:Act→World→Prop}{P:Program}{c:Code}{Q:Exit→Act→World→Prop}{a:Act}{w:World}(h:∀a w,Code.wp P c Q a w→K a w)(k:Code.wp P c Q a w):K a w:=h a w k
theorem axisTail_any(O:Nat)(a:Option Addr)(l:List Int)(cap n:Nat)(hn:n≤900000)(hl:l.length≤100)(w:World)(_hraw:Zhe a l w.heap.size)(_hO:O<w.heap.size)(ur:World)(B G1 G2:Nat)(sf tv nz ks pu wa mo cn lm cv tu bu gx gy gz:Int)(x1:Value)(wi rx:Int)(vr:Nat→Value)
 (bwi:0≤wi∧wi≤150000) (hX:AXS w ur O w.heap.size B a l cap (n+19) vr [(⟨G2,0,none⟩,Vi gx),(⟨G2,1,none⟩,Vi gy),(⟨G1,0,none⟩,Vi 0),(⟨G1,1,none⟩,Vi gz)]) (hvs:Ls vr [Vi 0,Vi 0,Vi nz,Vi pu,Vi sf,Vi tv,Vi rx,Vi ks,Vi lm,Vi cv,Vi wa,Vi tu,.slice (some (Ad G1 0)) 2 2,.slice (some (Ad G2 0)) 2 2,Vi bu]) (brx:1≤rx∧rx≤tv)
 (hpr:pu+ks≤(sf-1)*rx) (hwi:wi=2*(nz+bk ((sf-1)*rx) ((sf-1)*tv+(pu+ks)))) (hgb:(100≤gz∧gz≤999)∧(0≤gx∧gx≤65536)∧0≤gy∧gy≤299) (hlm:2*nz≤lm∧lm≤2040) (hcv:1≤cv∧cv≤10) (htb:(0≤tu∧tu≤1000)∧0≤bu∧bu≤65536)
 (bs:2≤sf∧sf≤4) (bt:1≤tv∧tv≤1000) (bnz:0≤nz∧nz≤1000) (bks:0≤ks∧ks≤tv) (bpu:0≤pu∧pu≤1000) (bw:1≤wa∧wa≤10) (u7 u8 u9 u10 u11 u12 u13 u14 u15 u16 u17 u18 u19 u20 u21 u22 u23 u24 u25 u26 u27 u28 u29 u30 u31 u32 u33 u34 u35 u36 u37 u38 u39 u40 u41 u42 u43 u44 u45 u46 u47 u48 u49 u50 u51 u52 u53 u54 u55 u56 u57 u58 u59 u60 u61 u62 u63 u64 u65 u66 u67 u68 u69 u70 u71 u72 u73 u74 u75 u76 u77 u78 u79 u80 u81 u82 u83 u84 u85 u86 u87 u88 u89 u90 u91 u92 u93 u94 u95 u96 u97 u98 u99 u100 u101 u102 u103 u104 u105 u106 u107 u108 u109 u110 u111 u112 u113 u114 u115 u116 u117 u118 u119 u120 u121 u122 u123 u124 u125 u126 u127 u128 u129 u130 u131 u132 u133 u134 u135 u136 u137 u138 u139 u140 u141 u142 u143 u144 u145 u146 u147 u148 u149:Value):
 Code.wp prog axisTail (bodyPost prog Tryz.f68 (fun e w'=>(∃(a0 a1 a2 a3 a4 a5 a6 a7 a8 a9 a10 a11 a14:Int) (G1 G2:Nat),e=.returned (.agg #[Vi a0,Vi a1,Vi a2,Vi a3,Vi a4,Vi a5,Vi a6,Vi a7,Vi a8,Vi a9,Vi a10,Vi a11,.slice (some (Ad G1 0)) 2 2,.slice (some (Ad G2 0)) 2 2,Vi a14])∧AxK a0 a1 a2 a3 a4 a5 a6 a7 a8 a9 a10 a11 a14∧(∃x y z,GL w' G1 G2 x y z)∧w.heap.size≤G1∧w.heap.size≤G2)∧Dc w' O a l cap (n+22)∧DK O w w')) ⟨#[.pointer (some (Ad O 0)),x1,.pointer (some (Ad w.heap.size 0)),.pointer (some (Ad B 0)),Vi mo,Vi cn,Vi wi,u7,u8,u9,u10,u11,u12,u13,u14,u15,u16,u17,u18,u19,u20,u21,u22,u23,u24,u25,u26,u27,u28,u29,u30,u31,u32,u33,u34,u35,u36,u37,u38,u39,u40,u41,u42,u43,u44,u45,u46,u47,u48,u49,u50,u51,u52,u53,u54,u55,u56,u57,u58,u59,u60,u61,u62,u63,u64,u65,u66,u67,u68,u69,u70,u71,u72,u73,u74,u75,u76,u77,u78,u79,u80,u81,u82,u83,u84,u85,u86,u87,u88,u89,u90,u91,u92,u93,u94,u95,u96,u97,u98,u99,u100,u101,u102,u103,u104,u105,u106,u107,u108,u109,u110,u111,u112,u113,u114,u115,u116,u117,u118,u119,u120,u121,u122,u123,u124,u125,u126,u127,u128,u129,u130,u131,u132,u133,u134,u135,u136,u137,u138,u139,u140,u141,u142,u143,u144,u145,u146,u147,u148,u149],[]⟩ ur:=by
 obtain⟨wi0,wi1⟩:=bwi;have HL:=Zab hvs;obtain⟨rx0,rx1⟩:=brx;obtain⟨bs0,bs1⟩:=bs;obtain⟨bt0,bt1⟩:=bt;obtain⟨nz0,bz⟩:=bnz;obtain⟨ks0,bk0⟩:=bks;obtain⟨pu0,bp⟩:=bpu;have m2:=fun ts t p q w=>run_minA ts t p q w;have x2:=fun ts t p q w=>run_maxA ts t p q w;have HX:=Zab hX;have HPR:=Zab hpr;have HWI:=Zab hwi;have HGB:=Zab hgb;have HLM:=Zab hlm;have HCV:=Zab hcv;have HTB:=Zab htb;clear hX hpr hwi hgb hlm hcv htb hvs
 conv=>arg 2;whnf
 have TK40:Hid True:=trivial;have TK41:Hid True:=trivial
 go_upto_region 17 with(first
  |(go_at_call 70;clear TK40;refine(diceMost2 O a l cap (n+19) 3 3000 1 3000 (by omega) hl ?_ _ HX.out.1).mono ?_;(omega);rintro e y40 ⟨⟨q,rfl,q0,q1⟩,hD,hK⟩;have HX:=Zab (AXS.dk HX.out hD hK);clear hD hK)
  |(go_at_call 67;clear TK41;refine(dN q hl HX.out.1).mono ?_;rintro e y41 ⟨⟨wm,rfl,wm0,wm1⟩,hD,hK,hsz⟩;clear hsz;have HX:=Zab (AXS.dk HX.out hD hK);clear hD hK))
 have bv:0≤wi+wm∧wi+wm≤153000:=by omega
 have HWD:=Zab (show wi≤wi+wm by omega);generalize wi+wm=wd at *;obtain⟨bv0,bv1⟩:=bv;clear wi0 wi1 wm0 wm1 q0 q1
 have bmn:1≤mnA wd 100000+1∧mnA wd 100000+1≤100001:=by unfold mnA;omega
 obtain⟨bmn0,bmn1⟩:=bmn;have TK42:Hid True:=trivial
 go_upto_region 18 with(go_at_call 67;clear TK42;refine(dN (mnA wd 100000+1) hl HX.out.1).mono ?_;rintro e y42 ⟨⟨lx,rfl,lx0,lx1⟩,hD,hK,hsz⟩;clear hsz;have HX:=Zab (AXS.dk HX.out hD hK);clear hD hK;have d0:=(HX.out.2.1 0 (by omega)).1;have f0:=(HX.out.2.1 0 (by omega)).2);have HX:=Zab (AXS.put (HX.out) 0 (Vi (mxA (-lx) (wd-200000))));have HL:=Zab ((HL.out).put 0 (Vi (mxA (-lx) (wd-200000))));generalize (updV vr 0 (Vi (mxA (-lx) (wd-200000))))=v43 at HX HL;generalize y42.setCell (Ad B 0) (Vi (mxA (-lx) (wd-200000)))=u43 at*
 have bmx:mnA wd 100000≤wd∧mnA wd 100000≤100000:=by unfold mnA;omega
 have bl:-100000≤mxA (-lx) (wd-200000)∧mxA (-lx) (wd-200000)≤0:=by unfold mxA;omega
 have HLW:=Zab (show 0≤mxA (-lx) (wd-200000)+wd by unfold mxA;omega);generalize mxA (-lx) (wd-200000)=lo at *;obtain⟨bl0,bl1⟩:=bl;clear lx0 lx1 bmn0 bmn1 bmx d0 f0;have c0:=AXS.ld HX.out HL.out (j:=0) (x:=Vi lo) rfl;have d1:=(HX.out.2.1 1 (by omega)).1;have f1:=(HX.out.2.1 1 (by omega)).2
 go_upto_region 19 with fail;have HX:=Zab (AXS.put (HX.out) 1 (Vi (lo+wd)));have HL:=Zab ((HL.out).put 1 (Vi (lo+wd)));generalize (updV v43 1 (Vi (lo+wd)))=v45 at HX HL;generalize u43.setCell (Ad B 1) (Vi (lo+wd))=u45 at *;clear c0 d1 f1
 by_cases hh:100000<lo+wd
 · skip
   have c1:=AXS.ld HX.out HL.out (j:=1) (x:=Vi (lo+wd)) rfl;have d0:=(HX.out.2.1 0 (by omega)).1;have f0:=(HX.out.2.1 0 (by omega)).2;have d1:=(HX.out.2.1 1 (by omega)).1;have f1:=(HX.out.2.1 1 (by omega)).2
   go_upto_region 21 with fail;have HX:=Zab (AXS.put (AXS.put (HX.out) 0 (Vi (100000-wd))) 1 (Vi 100000));have HL:=Zab (((HL.out).put 0 (Vi (100000-wd))).put 1 (Vi 100000));generalize (updV (updV v45 0 (Vi (100000-wd))) 1 (Vi 100000))=v46 at HX HL;generalize (u45.setCell (Ad B 0) (Vi (100000-wd))).setCell (Ad B 1) (Vi 100000)=u46 at *;clear c1 d0 f0 d1 f1;have HL:Hid (Ls v46 [Vi (100000-wd),Vi 100000,Vi nz,Vi pu,Vi sf,Vi tv,Vi rx,Vi ks,Vi lm,Vi cv,Vi wa,Vi tu,.slice (some (Ad G1 0)) 2 2,.slice (some (Ad G2 0)) 2 2,Vi bu]):=HL;obtain⟨c0,c1,c2,c3,c4,c5,c6,c7,c8,c9,c10,c11,c12,c13,c14⟩:=AXS.all HX.out HL.out;obtain⟨⟨d0,f0⟩,⟨d1,f1⟩,⟨d2,f2⟩,⟨d3,f3⟩,⟨d4,f4⟩,⟨d5,f5⟩,⟨d6,f6⟩,⟨d7,f7⟩,⟨d8,f8⟩,⟨d9,f9⟩,⟨d10,f10⟩,⟨d11,f11⟩,⟨d12,f12⟩,⟨d13,f13⟩,⟨d14,f14⟩⟩:=AXS.zer HX.out;obtain⟨U,hU,hz,hD,hK,hG⟩:=fin15L HX.out HL.out;have HU:=Zab hU;have HZZ:=Zab hz;have HDD:=Zab hD;have HKK:=Zab hK;have HGG:=Zab hG;clear HX hU hz hD hK hG;go_wp2_with fail;rw[←HU.out];obtain⟨z0,z1,z2,z3,z4,z5,z6,z7,z8,z9,z10,z11,z12,z13,z14⟩:=HZZ.out;refine bodyPost_ret (v:=.agg #[Vi (100000-wd),Vi 100000,Vi nz,Vi pu,Vi sf,Vi tv,Vi rx,Vi ks,Vi lm,Vi cv,Vi wa,Vi tu,.slice (some (Ad G1 0)) 2 2,.slice (some (Ad G2 0)) 2 2,Vi bu]) ?_ rfl ⟨⟨_,_,_,_,_,_,_,_,_,_,_,_,_,G1,G2,rfl,?_,⟨gz,gx,gy,⟨(HGG.out (⟨G1,0,none⟩,Vi 0) (by simp)).1,(HGG.out (⟨G1,1,none⟩,Vi gz) (by simp)).1,(HGG.out (⟨G2,0,none⟩,Vi gx) (by simp)).1,(HGG.out (⟨G2,1,none⟩,Vi gy) (by simp)).1⟩,HGB.out⟩,(HGG.out (⟨G1,0,none⟩,Vi 0) (by simp)).2.1,(HGG.out (⟨G2,0,none⟩,Vi gx) (by simp)).2.1⟩,HDD.out,HKK.out⟩
   · simp[results,results68,go_sem,z0,z1,z2,z3,z4,z5,z6,z7,z8,z9,z10,z11,z12,z13,z14]
   · have e1:=HLM.out;have e2:=HCV.out;have e3:=HTB.out;have e4:=HLW.out;have e5:=HWD.out;have e6:=HPR.out;have e7:=HWI.out;constructor<;>omega
 · skip
   have c1:=AXS.ld HX.out HL.out (j:=1) (x:=Vi (lo+wd)) rfl
   go_upto_region 21 with fail;clear c1;have HL:Hid (Ls v45 [Vi lo,Vi (lo+wd),Vi nz,Vi pu,Vi sf,Vi tv,Vi rx,Vi ks,Vi lm,Vi cv,Vi wa,Vi tu,.slice (some (Ad G1 0)) 2 2,.slice (some (Ad G2 0)) 2 2,Vi bu]):=HL;obtain⟨c0,c1,c2,c3,c4,c5,c6,c7,c8,c9,c10,c11,c12,c13,c14⟩:=AXS.all HX.out HL.out;obtain⟨⟨d0,f0⟩,⟨d1,f1⟩,⟨d2,f2⟩,⟨d3,f3⟩,⟨d4,f4⟩,⟨d5,f5⟩,⟨d6,f6⟩,⟨d7,f7⟩,⟨d8,f8⟩,⟨d9,f9⟩,⟨d10,f10⟩,⟨d11,f11⟩,⟨d12,f12⟩,⟨d13,f13⟩,⟨d14,f14⟩⟩:=AXS.zer HX.out;obtain⟨U,hU,hz,hD,hK,hG⟩:=fin15L HX.out HL.out;have HU:=Zab hU;have HZZ:=Zab hz;have HDD:=Zab hD;have HKK:=Zab hK;have HGG:=Zab hG;clear HX hU hz hD hK hG;go_wp2_with fail;rw[←HU.out];obtain⟨z0,z1,z2,z3,z4,z5,z6,z7,z8,z9,z10,z11,z12,z13,z14⟩:=HZZ.out;refine bodyPost_ret (v:=.agg #[Vi lo,Vi (lo+wd),Vi nz,Vi pu,Vi sf,Vi tv,Vi rx,Vi ks,Vi lm,Vi cv,Vi wa,Vi tu,.slice (some (Ad G1 0)) 2 2,.slice (some (Ad G2 0)) 2 2,Vi bu]) ?_ rfl ⟨⟨_,_,_,_,_,_,_,_,_,_,_,_,_,G1,G2,rfl,?_,⟨gz,gx,gy,⟨(HGG.out (⟨G1,0,none⟩,Vi 0) (by simp)).1,(HGG.out (⟨G1,1,none⟩,Vi gz) (by simp)).1,(HGG.out (⟨G2,0,none⟩,Vi gx) (by simp)).1,(HGG.out (⟨G2,1,none⟩,Vi gy) (by simp)).1⟩,HGB.out⟩,(HGG.out (⟨G1,0,none⟩,Vi 0) (by simp)).2.1,(HGG.out (⟨G2,0,none⟩,Vi gx) (by simp)).2.1⟩,HDD.out,HKK.out⟩
   · simp[results,results68,go_sem,z0,z1,z2,z3,z4,z5,z6,z7,z8,z9,z10,z11,z12,z13,z14]
   · have e1:=HLM.out;have e2:=HCV.out;have e3:=HTB.out;have e4:=HLW.out;have e5:=HWD.out;have e6:=HPR.out;have e7:=HWI.out;constructor<;>omega
end Go.Proofs.YtnfdfiholcelaaaGreatDoor
