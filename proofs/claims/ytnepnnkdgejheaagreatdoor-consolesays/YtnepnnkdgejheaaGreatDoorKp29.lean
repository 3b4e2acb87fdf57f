
import Derived.Test.YtnepnnkdgejheaaGreatDoorKp23
import Derived.Test.YtnepnnkdgejheaaGreatDoorKp27
import Derived.Test.YtnepnnkdgejheaaGreatDoorKp28
set_option maxRecDepth 100000
set_option maxHeartbeats 20000000
namespace Go.Proofs.YtnepnnkdgejheaaGreatDoor
open Go.RowKit Plain Tryz
variable {B K V base cap g i j k:Nat}{C:CR}{L l:List Sv}{R T hi lo p room s:Int}{S:FS}{cs:List Value}{e t:TypeId}{sv:Nat->List Sv}{u u' w wz:V6}{x:Value}
def Jly(T R:Int)(l:List Sv)(s:Int):Nat->Int
 |0=>-T
 |n+1=>if tot T R l (-T+((n+1:Nat):Int))<=s then -T+((n+1:Nat):Int) else Jly T R l s n
def YB(T R:Int)(l:List Sv)(s:Int):Int:=Jly T R l s (2*T).toNat
theorem Jbd(h0:tot T R l (-T)<=s):∀n:Nat,-T+(n:Int)<=T->(-T+(n:Int)<T->s<tot T R l (-T+(n:Int)+1))->C4 T R l s (Jly T R l s n)
 |0,h1,h2=>by
  show C4 T R l s (-T)
  exact⟨Int.le_refl _,by simpa using h1,h0,fun h=>by simpa using h2 (by simpa using h)⟩
 |n+1,h1,h2=>by
  unfold Jly
  split
  . rename_i c
    exact⟨by omega,h1,c,h2⟩
  . rename_i c
    exact Jbd h0 n (by omega) (fun _=>by rw[show -T+(n:Int)+1=-T+((n+1:Nat):Int) by omega];omega)
theorem Jbe(y:0<=T)(h0:tot T R l (-T)<=s):C4 T R l s (YB T R l s):=Jbd h0 _ (by omega) (fun h=>by omega)
def hiF(R p lo room:Int):Nat->Int
 |0=>lo
 |n+1=>if bk R (lo+((n+1:Nat):Int)+p)<=room then lo+((n+1:Nat):Int) else hiF R p lo room n
def hiI(R p lo hi room:Int):Int:=hiF R p lo room (hi-lo).toNat
theorem PB:∀n:Nat,lo+(n:Int)<=hi->(∀s,lo+(n:Int)<s->s<=hi->room<bk R (s+p))->BB R p lo hi room (hiF R p lo room n)
 |0,h1,h2=>by
  show BB R p lo hi room lo
  exact⟨Int.le_refl _,by simpa using h1,.inl rfl,fun s h=>h2 s (by simpa using h)⟩
 |n+1,h1,h2=>by
  unfold hiF
  split
  . rename_i c
    exact⟨by omega,h1,.inr c,h2⟩
  . rename_i c
    refine PB n (by omega) (fun s h3 h4=>?_)
    by_cases e:s=lo+((n+1:Nat):Int)
    . subst e;omega
    . exact h2 s (by omega) h4
theorem FK{h:Int}(H:BB R p lo hi room h):hiI R p lo hi room=h:=by
 have a:=H.1;have b:=H.2.1;exact(PB (hi-lo).toNat (by omega) (fun s h3 h4=>by omega)).only H
def moI(C:CR)(i:Nat):Int:=(C.a i 4-1)*C.a i 5
def raI(C:CR)(i:Nat):Int:=(C.a i 4-1)*C.a i 6
def puI(C:CR)(i:Nat):Int:=C.a i 3+C.a i 7
def skI(l:List Rd)(i:Nat):Int:=Ze (smp l (32+(i:Int)) 3).2 (-100) 100
def pvI(C:CR)(i:Nat)(L:List Sv):Int:=Ze (smU L L.length) (-moI C i) (moI C i)
def wtM(C:CR)(i:Nat)(h:Int×Int×Int)(k x v n:Int)(L:List Sv):Int:=wX (C.a i 0) (C.a i 1) (C.a i 11) (moI C i) (C.al i) (C.zl i) h.1 h.2.1 h.2.2 k x v n (pvI C i L)
def haM(C:CR)(i:Nat)(h:Int×Int×Int)(k x n:Int):Int:=wA (C.a i 0) (C.a i 1) (C.a i 11) h.1 h.2.2 k x n
def hdM(C:CR)(i:Nat)(h:Int×Int×Int)(k x v n:Int)(L:List Sv):Int:=wD (C.a i 0) (C.a i 1) (C.a i 11) (moI C i) (C.al i) (C.zl i) h.1 h.2.1 h.2.2 k x v n (pvI C i L)
def bdL(C:CR)(i:Nat)(x n q:Int):Int:=if A1 n 0 1 then -hiI (raI C i) (puI C i) (-Yu (moI C i) (raI C i) q) (-Yi (moI C i) (raI C i) q) (Ze x (-2000000) 2000000-C.a i 2-C.a i 0) else q-raI C i
def bdH(C:CR)(i:Nat)(x n q:Int):Int:=if A1 n 0 1 then hiI (raI C i) (puI C i) (Yi (moI C i) (raI C i) q) (Yu (moI C i) (raI C i) q) (C.a i 1-C.a i 2-Ze x (-2000000) 2000000) else q+raI C i
def smI(T R:Int)(L:List Sv)(s:Int):Int:=Ze s (tot T R L (-T)) (tot T R L T)
def plI(T R:Int)(L:List Sv)(s:Int):List Int:=dlU T R L (YB T R L (smI T R L s)) (smI T R L s-tot T R L (YB T R L (smI T R L s))) L.length
theorem Jbf(T R:Int)(L:List Sv)(s:Int):(plI T R L s).length=L.length:=Xk _ _ _ _ _ _
def sik(L:List Sv)(p:V9)(k:Nat):List Sv:=(List.range L.length).map fun j=>if j<k then(p.getD j 0,(A0 L j).2) else A0 L j
theorem II(L:List Sv)(p:V9)(k:Nat):(sik L p k).length=L.length:=by simp[sik]
theorem Jhq(L:List Sv)(p:V9):sik L p 0=L:=by
 apply List.ext_getElem
 . simp[sik]
 . intro j h1 h2
   simp[sik,A0,h2]
theorem Jo8(L:List Sv)(p:V9)(hk:k<L.length):A0 (sik L p k) k=A0 L k:=by
 simp[sik,A0,hk]
theorem Jhr(L:List Sv)(p:V9):(sik L p k).set k (p.getD k 0,(A0 L k).2)=sik L p (k+1):=by
 apply List.ext_getElem
 . simp[sik]
 . intro j h1 h2;simp only[sik,List.length_set,List.length_map,List.length_range] at h1;rw[List.getElem_set]
   by_cases e:k=j
   . subst e
     simp[sik]
   . rw[if_neg e];simp only[sik,List.getElem_map,List.getElem_range]
     by_cases h3:j<k
     . rw[if_pos h3,if_pos (by omega)]
     . rw[if_neg h3,if_neg (by omega)]
def goM(C:CR)(i:Nat)(h:Int×Int×Int)(k x v n:Int)(L:List Sv):Int:=Ze (wtM C i h k x v n L) (bdL C i x n (pvI C i L)) (bdH C i x n (pvI C i L))
def svM(C:CR)(i:Nat)(h:Int×Int×Int)(k x v n:Int)(L:List Sv):List Sv:=sik L (plI (C.a i 5) (C.a i 6) L (goM C i h k x v n L)) L.length
def hoM(C:CR)(i:Nat)(h:Int×Int×Int)(k x v n:Int)(L:List Sv):Int×Int×Int:=
 (haM C i h k x n,toD (C.a i 14) (moI C i) (haM C i h k x n) (hdM C i h k x v n L) x n (wtM C i h k x v n L) (smU (svM C i h k x v n L) L.length),n)
theorem TQ{L H U B M:Int}{al zl:V9}{A D W k n q:Int}(p v:Int)(h:hoE L H U B M al zl A D W k n q=0):hoE L H U B M al zl (wA L H U A W k p n) (wD L H U M al zl A D W k p v n q) n k n q=0:=by
 obtain⟨j,m,y⟩:=Wz h;obtain⟨e,w,Z,_⟩:=Wl j;obtain⟨⟨Y,X⟩,⟨Q,G⟩,_,_,m0',m1'⟩:=Wk e;obtain⟨⟨R,T⟩,⟨d0,d1⟩,J,K⟩:=Nl m
 have hn:A1 n 0 3=true:=by simp only[asB,Bool.and_eq_true] at y;exact y.1.2
 have ha:A1 (wA L H U A W k p n) L H=true:=by
  unfold wA a2I
  have:=Xu (a1I L H A W p n+CX k U) (show L<=H by omega)
  split<;>simp[A1]<;>omega
 have hd:A1 (wD L H U M al zl A D W k p v n q) (-M) M=true:=by
  unfold wD d2I
  have:=Xu (q-ppI L H U al zl A W k p v n) (show -M<=M by omega)
  split
  . split<;>simp[A1]<;>omega
  . simp[A1];omega
 unfold hoE
 rw[if_pos j,if_pos (by simp only[stB,ha,hd,hn,Bool.and_self]),if_pos y]
abbrev Qav(C:CR)(i:Nat):Array Value:=#[Vi (C.a i 0),Vi (C.a i 1),Vi (C.a i 11),Vi (C.a i 14),Vi (moI C i),.slice (C.p i) (C.al i).length (C.cn i),.slice (C.q i) (C.zl i).length (C.cm i)]
abbrev Qbo(C:CR)(i:Nat):Array Value:=#[Vi (C.a i 0),Vi (C.a i 1),Vi (C.a i 2),Vi (puI C i),Vi (moI C i),Vi (raI C i)]
theorem Xq:(prog.info? 107).map (·.size)=some 3:=by kernel_rfl
theorem D1:(prog.info? 140).map (·.size)=some 2:=by kernel_rfl
theorem NN(x:Int):∀(L:List Sv) (k:Nat),k<L.length->(svL L).set (k*3) (Vi x)=svL (L.set k (x,(A0 L k).2))
 |[],_,h=>by simp at h
 |s::r,0,_=>rfl
 |s::r,k+1,h=>by
  have:=NN x r k (by simpa using h);rw[show(k+1)*3=k*3+1+1+1 by omega];simp only[svL,List.set_cons_succ,this]
  simp[A0]
theorem FR.putIs{w0:V6}{a:V8}{l:List Rd}{G:Nat->Nat}(h:FR K w0 u B S C a cap l sv G)(hi:i<2)(hk:k<(sv i).length)(x:Int):FR K w0 (u.setCell (Ad (G i) (k*3)) (Vi x)) B S C a cap l (upd sv i ((sv i).set k (x,(A0 (sv i) k).2))) G:=by
 have hs:=h.servo i hi;have e:u.setCell (Ad (G i) (k*3)) (Vi x)=u.setCells (G i) (k*3) [Vi x]:=rfl;rw[e];refine⟨Blk.farCells hs.2.2.2.2.1.symm _ _ _ h.blk,Xw hs.2.2.2.2.2 _ _ _ h.rds,Zo _ _ _ h.low hs.2.2.2.1,h.base,h.far,fun j y=>?_,h.two,h.many,fun b h1 h2 h3 h4=>(DX (show b≠G i by rcases Qtw i with rfl|rfl<;>assumption) _ _ _).trans (h.oth b h1 h2 h3 h4)⟩;have ha:=h.servo j y
 by_cases e:j=i
 . subst e;rw[Zs];exact⟨ha.1,by rw[List.length_set];exact ha.2.1,NN x (sv j) k hk▸Blk.setCells [Vi x] _ _ _ ha.2.2.1,ha.2.2.2⟩
 . rw[Yv sv _ e]
   have hG:G j≠G i:=by
    have:=h.two
    rcases(show(j=0/\i=1)\/(j=1/\i=0) by omega) with⟨rfl,rfl⟩|⟨rfl,rfl⟩
    . exact this
    . exact this.symm
   exact⟨ha.1,ha.2.1,Blk.farCells hG _ _ _ ha.2.2.1,ha.2.2.2⟩
theorem Jhw{S C:Int}(h:AV T R S C L)(s:Int)(hk:k<L.length):-2147483647<=(plI T R L s).getD k 0/\(plI T R L s).getD k 0<=2147483647:=by
 have g:∀(v s:Int) n k,k<n->(dlU T R L v s n).getD k 0=dlI T R L v s k:=by
  intro v s n
  induction n with
  |zero=>intro k h;omega
  |succ n ih=>
   intro k h;rw[dlU,List.getD_eq_getElem?_getD]
   by_cases e:k=n
   . subst e;rw[List.getElem?_append_right (by rw[Xk];omega),Xk];simp
   . rw[List.getElem?_append_left (by rw[Xk];omega),<-List.getD_eq_getElem?_getD];exact ih k (by omega)
 unfold plI
 rw[g _ _ _ _ hk];have a:=DV h hk (YB T R L (smI T R L s))
 unfold dlI
 split<;>omega
theorem KC(h:Below K wz w)(hk:K<=w.heap.size)(y:Bw w u):Below K wz u:=h.trans (y.mono hk)
theorem Jhx(sv:Nat->List Sv)(i:Nat)(p:V9):upd sv i (sik (sv i) p 0)=sv:=by
 funext j;rw[Jhq];unfold upd;split
 . rename_i h;rw[h]
 . rfl
theorem PE:∀(L:List Sv) (k:Nat),k<L.length->(svL L)[k*3]?=some (Vi (A0 L k).1)
 |[],_,h=>by simp at h
 |s::r,0,_=>rfl
 |s::r,k+1,h=>by
  have:=PE r k (by simpa using h);rw[show(k+1)*3=k*3+1+1+1 by omega]
  simpa[svL,A0] using this
theorem IL(L:List Sv)(p:V9)(hk:k<L.length):A0 (sik L p L.length) k=(p.getD k 0,(A0 L k).2):=by
 simp[sik,A0,hk]
theorem Jl2{p:V9}(h:ILs u (some (Ad g 0)) p)(hk:k<p.length):u.cell? (Ad g k)=some (Vi (p.getD k 0)):=by
 rcases h with h|⟨b,off,h,hc⟩
 . subst h;simp at hk
 . simp only[Option.some.injEq,Addr.mk.injEq] at h;obtain⟨rfl,rfl,_⟩:=h
   simpa using hc k hk
theorem Jl3{p:V9}(y:g≠V)(h:ILs u (some (Ad g 0)) p):ILs (u.setCell (Ad V j) x) (some (Ad g 0)) p:=by
 rcases h with h|⟨b,off,h,hc⟩
 . exact .inl h
 . simp only[Option.some.injEq,Addr.mk.injEq] at h;obtain⟨rfl,rfl,_⟩:=h;refine .inr ⟨g,0,rfl,fun k hk=>?_⟩
   show World.cell? _ _=_
   rw[World.cell?_setCell_other _ _ _ _ (fun e=>y (congrArg Addr.block e).symm)];exact hc k hk
theorem Blk.farCell(y:V≠g)(h:Blk t u V cs):Blk t (u.setCell (Ad g j) x) V cs:=Blk.farCells y [x] j u h
structure AP (K:Nat) (wz:V6) (C:CR) (S:FS) (l:List Rd) (sv:Nat->List Sv) (i:Nat):Prop where
 n1:1<=(sv i).length
 n4:(sv i).length<=4
 m0:(C.al i).length<=9223372036854775807
 m1:(C.zl i).length<=9223372036854775807
 mc:(C.al i).length<=C.cn i
 line:∀u,Below K wz u->Lst u (C.p i) (C.al i)/\Lst u (C.q i) (C.zl i)
 ok:AV (C.a i 5) (C.a i 6) (C.a i 7) (C.a i 10) (sv i)
 h4:2<=C.a i 4/\C.a i 4<=4
 h5:1<=C.a i 5/\C.a i 5<=1000
 h3:0<=C.a i 3/\C.a i 3<=1000
 h7:0<=C.a i 7/\C.a i 7<=1000
 h6:1<=C.a i 6/\C.a i 6<=1000
 ho:hoE (C.a i 0) (C.a i 1) (C.a i 11) (C.a i 14) (moI C i) (C.al i) (C.zl i) (S.hd i).1 (S.hd i).2.1 (S.hd i).2.2 (skI l i) S.n (pvI C i (sv i))=0
 gm:gmE (C.a i 0) (C.a i 1) (C.a i 2) (puI C i) (moI C i) (raI C i) (pvI C i (sv i))=0
section
variable {K : Nat} {wz : World} {C : CR} {S : FS} {l : List Rd} {sv : Nat -> List Sv} {i : Nat}
theorem AP.mo(h:AP K wz C S l sv i):1<=moI C i/\moI C i<=3000:=by
 have h4:=h.h4;have h5:=h.h5
 unfold moI
 exact⟨by have:=Int.mul_le_mul (show 1<=C.a i 4-1 by omega) h5.1 (by omega) (by omega);omega,by have:=Int.mul_le_mul (show C.a i 4-1<=3 by omega) h5.2 (by omega) (by omega);omega⟩
theorem AP.ra(h:AP K wz C S l sv i):1<=raI C i/\raI C i<=3000:=by
 have h4:=h.h4;have h6:=h.h6
 unfold raI
 exact⟨by have:=Int.mul_le_mul (show 1<=C.a i 4-1 by omega) h6.1 (by omega) (by omega);omega,by have:=Int.mul_le_mul (show C.a i 4-1<=3 by omega) h6.2 (by omega) (by omega);omega⟩
theorem AP.is(h:AP K wz C S l sv i):∀k,k<(sv i).length->-2147483647<=(A0 (sv i) k).1/\(A0 (sv i) k).1<=2147483647:=fun k hk=>by
 have a:=Yh h.ok.1;have b:=Y2 (h.ok.2 k hk)
 omega
theorem AP.bounds(h:AP K wz C S l sv i)(k p v:Int)(w:V6):
 Va 291 #[.agg (Qbo C i),.agg #[Vi k,Vi p,Vi v,Vi S.n,Vi (pvI C i (sv i))]] w (Rt w (.tuple #[.agg #[Vi (bdL C i p S.n (pvI C i (sv i))),Vi (bdH C i p S.n (pvI C i (sv i)))],.nilIface])):=by
 have m:=h.mo;have H:=h.ra;have Z:=Xb (v:=smU (sv i) (sv i).length) (show -moI C i<=moI C i by omega)
 cases hn:A1 S.n 0 1
 . refine Sb (TO _ _ _ _ _ _ k p v S.n (pvI C i (sv i)) hn ⟨by unfold pvI;omega,by unfold pvI;omega⟩ ⟨by omega,by omega⟩ w) fun w' j=>?_;refine⟨?_,j⟩
   unfold bdL bdH
   rw[hn]
   rfl
 . refine(TP _ _ _ _ _ _ k p v S.n (pvI C i (sv i)) hn h.gm w).mono ?_;rintro e w' ⟨⟨x,y,rfl,hx,hy⟩,j⟩;refine⟨?_,j⟩
   unfold bdL bdH
   rw[hn,if_pos rfl,if_pos rfl,FK hx,FK hy]
theorem AP.spread(h:AP K wz C S l sv i)(s:Int)(g:Nat)(y:Nat)(w:V6)(j:VLs w (some (Ad g 0)) (sv i)):
 Va 292 #[.agg (Qbu C i),Vf g 0 (sv i).length y,Vi s] w fun e w'=>(∃x cap,e=.returned (.tuple #[Vf x 0 (sv i).length cap,.nilIface])/\w.heap.size<=x/\ILs w' (some (Ad x 0)) (plI (C.a i 5) (C.a i 6) (sv i) s))/\Bw w w':=
 Jd9 (C.a i 5) (C.a i 6) (C.a i 7) (C.a i 10) s _ (sv i) (some (Ad g 0)) y h.ok h.n1 h.n4 (Jbe (by have:=h.h5;omega) (Xb (v:=s) (Ni _ _ (sv i) (show -C.a i 5<=C.a i 5 by have:=h.h5;omega))).1) w j
end
def clE(n:Int):Int:=if A1 n 0 3 then 0 else 3
theorem PF(n:Int)(w:V6):Va 307 #[Vi n] w (Rt w (A8 (clE n))):=by
 have h:=Nw n
 unfold clE
 generalize A1 n 0 3=b at*
 cases b
 . rw[if_neg (by simp),Zv (by decide)]
   go_enter func307,ntmps307
   go_wp2_with (go_at_call 288;refine Sb (h _) fun j y=>?_);go_ret;exact⟨rfl,y⟩
 . rw[if_pos rfl,Z0]
   go_enter func307,ntmps307
   go_wp2_with (go_at_call 288;refine Sb (h _) fun j y=>?_);go_ret;exact⟨rfl,y⟩
def seU(C:CR)(i:Nat)(L:List Sv):Nat->Int
 |0=>0
 |k+1=>if seU C i L k=0 then svE (C.a i 5) (C.a i 6) (C.a i 7) (C.a i 10) (A0 L k).1 (A0 L k).2.1 (A0 L k).2.2 else seU C i L k
theorem Jhy(h:seU C i L k≠0):∀m,k<=m->seU C i L m=seU C i L k:=by
 intro m y
 induction m with
 |zero=>
  have:k=0:=by omega
  subst this;rfl
 |succ m ih=>
  by_cases e:k=m+1
  . subst e;rfl
  . have i:=ih (by omega);rw[seU,i,if_neg h]
def csE(C:CR)(i:Nat)(L:List Sv):Int:=if(L.length:Int)=C.a i 4 then seU C i L L.length else 3
theorem I6(C:CR)(i:Nat)(L:List Sv)(a:V8)(cap:Nat)(hl:L.length<=9)(w:V6)(N:VLs w a L):
 Va 311 #[.agg (Qab C i),.slice a L.length cap] w (Rt w (A8 (csE C i L))):=by
 have I:=Za N;have hd:=Mj (C.a i 0) (C.a i 1) (C.a i 2) (C.a i 3) (C.a i 4) (C.a i 5) (C.a i 6) (C.a i 7) (C.a i 8) (C.a i 9) (C.a i 10) (C.a i 11) (C.a i 14) (C.p i) (C.q i) (C.al i).length (C.zl i).length (C.cn i) (C.cm i);clear N
 by_cases hn:(L.length:Int)=C.a i 4
 . have Q:Hd (csE C i L=seU C i L L.length):=Za (by unfold csE;rw[if_pos hn]);rw[Q.o];have G:Hd (Blk 38 (w.alloc (.cells (Qab C i) 38)) w.heap.size (Qae C i)):=Za (Blk.new w _ _)
   go_enter func311,ntmps311
   go_upto_region 4 with fail;have P:=Za (Zb w (.cells (Qab C i) 38));generalize w.alloc (.cells (Qab C i) 38)=w1 at *;generalize w.heap.size=QA at G|-
   go_loopw [16] (fun ix wr=>∃k:Nat,k<=L.length/\ix=Vi k/\Hd (seU C i L k=0)/\Blk 38 wr QA (Qae C i)/\Bw w wr) (fun ix _=>L.length-(intOf ix).toNat)
   case atStart=>exact⟨0,Nat.zero_le _,rfl,Za rfl,G.o,P.o⟩
   case round=>
    obtain⟨k,hk,rfl,R,D,e⟩:=hrel;clear G P
    by_cases hlt:k<L.length
    . obtain⟨b,off,rfl,c0,c1,c2⟩:=(I.o.lq e).at hlt;have hc:=Mr (C.a i 5) (C.a i 6) (C.a i 7) (C.a i 10) (A0 L k).1 (A0 L k).2.1 (A0 L k).2.2;have T:Hd (seU C i L (k+1)=svE (C.a i 5) (C.a i 6) (C.a i 7) (C.a i 10) (A0 L k).1 (A0 L k).2.1 (A0 L k).2.2):=Za (by rw[seU,if_pos R.o]);generalize svE (C.a i 5) (C.a i 6) (C.a i 7) (C.a i 10) (A0 L k).1 (A0 L k).2.1 (A0 L k).2.2=se at *;generalize (A0 L k).1=si at *;generalize (A0 L k).2.1=m at *;generalize (A0 L k).2.2=so at*
      have A:(0:Int)<=(k:Int):=by omega
      have B:(k:Int)<(L.length:Int):=by omega
      have H:=Za (Zc e (Zb wr (.cells #[Vi si,Vi m,.bool so] 169)));have Z:=Za (D.lq (Zb wr (.cells #[Vi si,Vi m,.bool so] 169)));have J:Hd (Blk 169 (wr.alloc (.cells #[Vi si,Vi m,.bool so] 169)) wr.heap.size [Vi si,Vi m,.bool so]):=Za (Blk.new wr _ _);clear D e R
      go_upto_region 6 with fail;clear c0 c1 c2;generalize wr.alloc (.cells #[Vi si,Vi m,.bool so] 169)=w2 at *;generalize wr.heap.size=QS at J|-;have Y:=Za Z.o.range;have X:=Za J.o.range;clear J
      by_cases he:se=0
      . subst he;simp only[Z0] at hc;refine Cs [20,21,22,23,7] ?_;refine Cl (x:=.tmp 2) 0 20 [] (fun y w _ u ha=>⟨Zf Y.o ha,rfl⟩) underlying38 Zq ?_;refine Cc 1 21 [0] (fun y w h _=>hd _) ?_;refine Cl (x:=.tmp 6) 2 22 [] (fun y w _ u ha=>⟨Zf X.o ha,rfl⟩) underlying169 Wc ?_;refine Cc 3 23 [1,2] (fun y w h _=>hc _) ?_;refine Cp 4 7 [3] ?_;refine Ce (fun y O j K=>?_);have E:=Za j;clear j K;go_simp;have j:=E.o;clear E;generalize O=v6 at j|-;refine Ek ?_;clear Y X;have M:=Za (Zc H.o j);have Z:=Za (Z.o.lq j);clear j H;go_wp2_with fail;go_roundw
        case rel=>exact⟨k+1,by omega,by go_num,T,Z.o,M.o⟩
        case measure=>simp[intOf];omega
      . simp only[Zv he] at hc;refine Cs [20,21,22,23,7] ?_;refine Cl (x:=.tmp 2) 0 20 [] (fun y w _ u ha=>⟨Zf Y.o ha,rfl⟩) underlying38 Zq ?_;refine Cc 1 21 [0] (fun y w h _=>hd _) ?_;refine Cl (x:=.tmp 6) 2 22 [] (fun y w _ u ha=>⟨Zf X.o ha,rfl⟩) underlying169 Wc ?_;refine Cc 3 23 [1,2] (fun y w h _=>hc _) ?_;refine Cp 4 7 [3] ?_;refine Ce (fun y U j K=>?_);have F:=Za j;clear j K;go_simp;have j:=F.o;clear F;generalize U=v6 at j|-;refine Ek ?_;clear Y X;have M:=Za (Zc H.o j);clear j H;go_wp2_with fail;go_ret;refine⟨?_,M.o⟩;rw[Jhy (by rw[T.o];exact he) _ hlt,T.o,Zv he]
        rfl
    . obtain rfl:k=L.length:=by omega
      go_wp2_with fail;go_ret;exact⟨by rw[R.o];rfl,e⟩
 . have Q:Hd (csE C i L=3):=Za (by unfold csE;rw[if_neg hn]);rw[Q.o,Zv (by decide)]
   have W:(decide ((L.length:Int)=C.a i 4))=false:=by simpa using hn
   go_enter func311,ntmps311
   go_wp2_with fail;go_ret;exact⟨rfl,Zb _ _⟩
def chE(C:CR)(i:Nat)(h:Int×Int×Int):Int:=hoE (C.a i 0) (C.a i 1) (C.a i 11) (C.a i 14) (moI C i) (C.al i) (C.zl i) h.1 h.2.1 h.2.2 0 0 0
structure AxC (u:V6) (C:CR) (i:Nat):Prop where
 h4:2<=C.a i 4/\C.a i 4<=4
 h5:1<=C.a i 5/\C.a i 5<=1000
 h3:0<=C.a i 3/\C.a i 3<=1000
 h7:0<=C.a i 7/\C.a i 7<=1000
 h6:1<=C.a i 6/\C.a i 6<=1000
 m0:(C.al i).length<=9223372036854775807
 m1:(C.zl i).length<=9223372036854775807
 mc:(C.al i).length<=C.cn i
 la:Lst u (C.p i) (C.al i)
 lz:Lst u (C.q i) (C.zl i)
theorem AxC.lq(h:AxC u C i)(y:Bw u u'):AxC u' C i:=⟨h.h4,h.h5,h.h3,h.h7,h.h6,h.m0,h.m1,h.mc,h.la.lq y,h.lz.lq y⟩
theorem Jeb(h:AxC w C i)(hd:Int×Int×Int):∃x x0 j x2:Int,∀u,Bw w u->Va 290 #[.agg (Qav C i),.agg #[Vi hd.1,Vi hd.2.1,Vi hd.2.2],.agg #[Vi 0,Vi 0,Vi 0,Vi 0,Vi 0]] u (Rt u (.tuple #[Vi x,.agg #[Vi x0,Vi j,Vi x2],A8 (chE C i hd)])):=by
 by_cases he:chE C i hd=0
 . simp only[he,Z0];exact⟨_,_,_,_,fun u y=>Jbh (C.a i 0) (C.a i 1) (C.a i 11) (C.a i 14) (moI C i) (C.p i) (C.q i) (C.cn i) (C.cm i) (C.al i) (C.zl i) hd.1 hd.2.1 hd.2.2 0 0 0 0 0 h.m0 h.m1 h.mc he u (h.la.lq y) (h.lz.lq y)⟩
 . simp only[Zv he];exact⟨0,0,0,0,fun u y=>Jhv (C.a i 0) (C.a i 1) (C.a i 11) (C.a i 14) (moI C i) (C.p i) (C.q i) (C.cn i) (C.cm i) (C.al i) (C.zl i) hd.1 hd.2.1 hd.2.2 0 0 0 0 0 h.m0 h.m1 h.mc he u (h.la.lq y) (h.lz.lq y)⟩
theorem LZ(C:CR)(i:Nat)(hd:Int×Int×Int)(w:V6)(h:AxC w C i):
 Va 313 #[.agg (Qab C i),.agg #[Vi hd.1,Vi hd.2.1,Vi hd.2.2]] w (Rt w (A8 (chE C i hd))):=by
 obtain⟨x,m,H,Z,hc⟩:=Jeb h hd;have ha:=M9 (C.a i 0) (C.a i 1) (C.a i 2) (C.a i 3) (C.a i 4) (C.a i 5) (C.a i 6) (C.a i 7) (C.a i 8) (C.a i 9) (C.a i 10) (C.a i 11) (C.a i 14) (C.p i) (C.q i) (C.al i).length (C.zl i).length (C.cn i) (C.cm i) h.h4 h.h5 h.h3 h.h7 h.h6;have O:∀u,Va 156 #[.agg (Qab C i)] u (Rt u (.agg (Qav C i))):=ha;clear ha h;generalize chE C i hd=ce at *;generalize moI C i=mo at *;obtain⟨h0,h1,h2⟩:=hd
 dsimp only at*
 have M:=Za ((Blk.new w 38 (Qae C i)).lq (Zb _ (.cells #[Vi h0,Vi h1,Vi h2] 107)))
 have N:Hd (Blk 107 ((w.alloc (.cells (Qab C i) 38)).alloc (.cells #[Vi h0,Vi h1,Vi h2] 107)) (w.heap.size+1) [Vi h0,Vi h1,Vi h2]):=Za (by
  have:=Blk.new (w.alloc (.cells (Qab C i) 38)) 107 [Vi h0,Vi h1,Vi h2];rw[World.size_alloc] at this;exact this)
 have G:=Za (Zc (Zb w (.cells (Qab C i) 38)) (Zb _ (.cells #[Vi h0,Vi h1,Vi h2] 107)))
 go_enter func313,ntmps313
 go_upto_region 1 with fail;have P:Hd (((w.alloc (.cells (Qab C i) 38)).alloc (.cells #[Vi h0,Vi h1,Vi h2] 107)).rangeAt w.heap.size 0 (Qae C i)):=Za M.o.range;have D:=Za N.o.range;clear M N;have G:Hd (Bw w ((w.alloc (.cells (Qab C i) 38)).alloc (.cells #[Vi h0,Vi h1,Vi h2] 107))):=G;generalize (w.alloc (.cells (Qab C i) 38)).alloc (.cells #[Vi h0,Vi h1,Vi h2] 107)=w2 at *;refine Cs [9,10,11,12,13,8,14,15,16,6,5] ?_;refine Cl (x:=.tmp 2) 0 9 [] (fun y w _ u T=>⟨Zf P.o T,rfl⟩) underlying38 Zq ?_;refine Cc 1 10 [0] (fun y w h _=>O _) ?_;refine Cl (x:=.tmp 3) 2 11 [] (fun y w _ u T=>⟨Zf D.o T,rfl⟩) underlying107 Xq ?_;refine Cp 3 12 [] ?_;refine Cc 4 13 [1,2,3] (fun y w h _=>hc _ (Zc G.o h)) ?_;refine Cp 5 8 [4] ?_;refine Cp 6 14 [5] ?_;refine Cp 7 15 [5] ?_;refine Cp 8 16 [5] ?_;refine Ca 9 6 ?_;refine Cp 10 5 [6] ?_;refine Cn 2 13 [11,12] (fun y J j E=>?_);obtain⟨Y,e,X⟩:=E.2.1;have Q:Hd (NB _ _ _ Y [Vi 0,Vi 0,Vi 0]):=Za X;(try simp only[e]);clear e X;have F:=Za j;clear j E;refine Ra 11 (fun K hK=>?_);rw[if_pos (by rfl)];refine Z2 107 (.tmp 6) (.tmp 15) rfl Y 0 #[Vi m,Vi H,Vi Z] rfl rfl (Q.o.1.there (Nat.le_of_ble_eq_true rfl)) Xq (Zm _ rfl) rfl ?_
 have R:=Za (Zo [Vi m,Vi H,Vi Z] 0 J F.o (NB.le Q.o));have I:Hd (NB 107 w2.heap.size (J.setCells Y 0 [Vi m,Vi H,Vi Z]) Y [Vi m,Vi H,Vi Z]):=Za ⟨Blk.setCells [Vi m,Vi H,Vi Z] 0 J [Vi 0,Vi 0,Vi 0] Q.o.1,NB.le Q.o⟩;generalize U:World.setCells _ Y 0 _=A at *;clear U;refine hK.out _ _ R.o (fun _=>?_);clear hK K;clear F Q;refine Tq 12 R.o ?_;simp only[Act.put,Ly];refine Dn ?_;go_simp;have X:=I.o;clear I;have j:=R.o;clear R;generalize A=v1 at j X|-;refine Ek ?_;have B:=Za (Zc G.o j);clear X j P D;go_wp2_with fail;go_ret;exact⟨rfl,B.o⟩
section
variable {zz : World} {Ba Bs Bi Bb : Nat} {S : FS} {C : CR} {i : Nat} {L : List Sv}
theorem Jl4(h:Blk 110 zz Bs (stL S)):Va 306 #[Ve Bs 0] zz (Rt zz (A8 (clE S.n))):=by
 have c:=(h.cell (show(stL S)[29]?=some (Vi S.n) from rfl)).1;have hc:=PF S.n;clear h;generalize clE S.n=ce at*
 go_enter func306,ntmps306
 go_wp2_with (go_at_call 307;refine Sb (hc _) fun j y=>?_);go_ret;exact⟨rfl,y⟩
theorem Jl5:(prog.info? 102).map (·.size)=some 7:=by kernel_rfl
theorem PG(k:Bk)(h:Blk 102 zz Bb (bkL k)):Va 308 #[Ve Bb 0] zz (Rt zz (A8 (Yk k.b k.l))):=by
 have y:=Za h.range;have hc:=Zkk k.b k.o k.l;clear h;generalize Yk k.b k.l=ce at*
 go_enter func308,ntmps308
 go_wp2_with (first
  |(refine Lm 102 (.tmp 0) rfl Bb 0 (bkL k) y.o underlying102 Jl5 ?_)
  |(go_at_call 309;refine Sb (hc _) fun m j=>?_))
 go_ret;exact⟨rfl,j⟩
theorem Jbi(hi:i<2)(ha:Blk 38 zz Ba (Qae C i))(hs:Blk 110 zz Bs (stL S))(hx:Blk 3 zz Bi [Vi (i:Int)])(hn:S.sn i=L.length)(hl:L.length<=9)(e:VLs zz (S.sp i) L):
 Va 310 #[Ve Ba 0,Ve Bs 0,Ve Bi 0] zz (Rt zz (A8 (csE C i L))):=by
 have hc:=(hx.cell (j:=0) rfl).1;have H:=(hs.cell (Uw S hi)).1;rw[hn] at H;have Y:=Za ha.range;have hd:=fun v (h:Bw zz v)=>I6 C i L (S.sp i) (S.sc i) hl v (e.lq h)
 have R:(0:Int)<=(i:Int):=by omega
 have T:(i:Int)<2:=by omega
 clear ha hs hx e;generalize csE C i L=ce at*
 go_enter func310,ntmps310
 go_upto_region 1 with fail;refine Cs [4,5,6,7,8,9,3] ?_;refine Cl (x:=.tmp 0) 0 4 [] (fun y w _ u X=>⟨Zf Y.o X,rfl⟩) underlying38 Zq ?_;refine Cq (V5 hc) 1 5 [] ?_;refine Cp 2 6 [] ?_;refine Cp 3 7 [2,1] ?_;refine Cq (V5 H) 4 8 [3] ?_;refine Cc 5 9 [0,4] (fun y w h _=>hd _ h) ?_;refine Cp 6 3 [5] ?_;refine Ce (fun y Q m G=>?_);have Z:=Za m;clear m G;go_simp;have m:=Z.o;clear Z;generalize Q=v1 at m|-;refine Ek ?_;go_wp2_with fail;go_ret;exact⟨rfl,m⟩
theorem Jbj(hi:i<2)(ha:Blk 38 zz Ba (Qae C i))(hs:Blk 110 zz Bs (stL S))(hx:Blk 3 zz Bi [Vi (i:Int)])(hc:AxC zz C i):
 Va 312 #[Ve Ba 0,Ve Bs 0,Ve Bi 0] zz (Rt zz (A8 (chE C i (S.hd i)))):=by
 have Y:=(hx.cell (j:=0) rfl).1;have e:=Za (hs.sub (23+i*3) 3);rw[Jao S hi] at e;have X:=Za ha.range;have Q:=fun v (h:Bw zz v)=>LZ C i (S.hd i) v (hc.lq h)
 have T:(0:Int)<=(i:Int):=by omega
 have J:(i:Int)<2:=by omega
 clear ha hs hx hc;generalize chE C i (S.hd i)=ce at*
 unfold hdL at e
 generalize (S.hd i).1=h0 at *;generalize (S.hd i).2.1=h1 at *;generalize (S.hd i).2.2=h2 at*
 go_enter func312,ntmps312
 go_upto_region 1 with fail;refine Cs [4,5,6,7,8,9,3] ?_;refine Cl (x:=.tmp 0) 0 4 [] (fun y w _ u H=>⟨Zf X.o H,rfl⟩) underlying38 Zq ?_;refine Cq (V5 Y) 1 5 [] ?_;refine Cp 2 6 [] ?_;refine Cp 3 7 [2,1] ?_;refine Cl (x:=.tmp 7) 4 8 [3] (fun y w hF u H=>⟨Zf e.o H,hF.1⟩) underlying107 Xq ?_;refine Cc 5 9 [0,4] (fun y w h _=>Q _ h) ?_;refine Cp 6 3 [5] ?_;refine Ce (fun y G m R=>?_);have Z:=Za m;clear m R;go_simp;have m:=Z.o;clear Z;generalize G=v1 at m|-;refine Ek ?_;go_wp2_with fail;go_ret;exact⟨rfl,m⟩
end
theorem Blk.grown{v:Value}{xs:List Value}(h:Blk t u B cs)(ho:u.ownsRow base e 1 v k xs)(ha:t≠e)(y:u.grownBy u' v.ownBlock):Blk t u' B cs:=by
 refine(y.block B h.lt ?_).trans h
 rcases ownsRow_ne_a ho h (fun m e=>absurd (Obj.cells.inj e).2.1 ha) with e|e
 . rw[e];simp
 . exact fun j=>e j.symm
theorem Jl6(xs:List Value)(h:base<=u.heap.size)(y:xs.length<=1000):(u.alloc (.cells xs.toArray e)).ownsRow base e 1 (Vf u.heap.size 0 xs.length xs.length) xs.length xs:=
 ⟨by omega,.inr ⟨u.heap.size,xs.length,xs.toArray,rfl,h,World.alloc_heap_new u _,Nat.le_refl _,by unfold maxLen;omega,by simp,by simp⟩⟩
theorem Jl7:(prog.info? 103).map (·.size)=some 21:=by kernel_rfl
def bk3(S:FS):List Value:=bkL (S.bk 0)++bkL (S.bk 1)++bkL (S.bk 2)
theorem Jh0(S:FS):((stL S).drop 0).take 21=bk3 S:=rfl
theorem Jpb(S:FS)(w:V6):(Instr.index 103 (.agg (bk3 S).toArray) (Vi 0)).run prog w=.ok (.agg (bkL (S.bk 0)).toArray) w:=by kernel_rfl
theorem Jpc(S:FS)(w:V6):(Instr.index 103 (.agg (bk3 S).toArray) (Vi 1)).run prog w=.ok (.agg (bkL (S.bk 1)).toArray) w:=by kernel_rfl
theorem Jpd(S:FS)(w:V6):(Instr.index 103 (.agg (bk3 S).toArray) (Vi 2)).run prog w=.ok (.agg (bkL (S.bk 2)).toArray) w:=by kernel_rfl
theorem Jbk(C:CR):((crL C).drop 0).take 30=axL C 0++axL C 1:=rfl
theorem GO(y:V6)(X:Value)(t:TypeId):∀j u,[X][j]?=some u->(y.alloc (.cells #[X] t)).cell? ((⟨y.heap.size,0,none⟩:Addr).add j)=some u:=by
 intro j u h
 cases j with
 |zero=>simp at h;subst h;simp[go_sem,Addr.add]
 |succ j=>simp at h
theorem Jn7(y:V6)(X Y:Value)(t:TypeId):∀j u,[X,Y][j]?=some u->(y.alloc (.cells #[X,Y] t)).cell? ((⟨y.heap.size,0,none⟩:Addr).add j)=some u:=by
 intro j u h
 match j with
 |0=>simp at h;subst h;simp[go_sem,Addr.add]
 |1=>simp at h;subst h;simp[go_sem,Addr.add]
 |j+2=>simp at h
theorem Eh{ops:Array Oper}{rest:List Oper}{op:Oper}{a:Act}{Q:Exit->Act->World->Prop}{c c':Array Value}(x y:Operand)(ha:op.guard=none)(ho:op.op=.store 102 x y)(hx:a.eval x=Ve w.heap.size 0)(hy:a.eval y=.agg c')(hs:c'.size=7)(hc:c.size=c'.size)(h1:c'.all (·.oneCell')=true)(h:wpList prog ops Q rest (a.put op.dst undef) (w.alloc (.cells c' 102))):wpList prog ops Q (op::rest) a (w.alloc (.cells c 102)):=
 wpList_plain ha fun _ hK=>by
  unfold Oper.wp execOp
  simp only[ho,hx,hy,Sem.run_bind,Sem.run_pure,Result.andThen_ok,run_storeAt_new w 102 c c' (by rw[Xl,hs]) hc h1];exact hK _ _ h
def gSt(k:Nat):Nat:=[306,308,308,308,310,312,310,312].getD k 0
def Jec(h:Nat)(b x y:Nat->Nat)(k:Nat):Array Value:=[#[Ve h 0],#[Ve (b 0) 0],#[Ve (b 1) 0],#[Ve (b 2) 0],#[Ve (x 0) 0,Ve h 0,Ve (y 0) 0],#[Ve (x 0) 0,Ve h 0,Ve (y 0) 0],#[Ve (x 1) 0,Ve h 0,Ve (y 1) 0],#[Ve (x 1) 0,Ve h 0,Ve (y 1) 0]].getD k #[]
def stV(h:Nat)(b x y:Nat->Nat):List Value:=(List.range 8).map fun k=>.func (.func (gSt k)) #[] (Jec h b x y k)
theorem Jrm(j:Nat)(b x y:Nat->Nat)(h:u.ownsRow base e 1 (Vf g 0 8 cap) 8 (stV j b x y)):LH u (some (Ad g 0)) 8 gSt (Jec j b x y):=
 .inr ⟨g,0,rfl,fun k hk=>by
  show World.cell? _ _=_
  rw[Nat.zero_add,h.cellAt k (by omega)]
  simp[stV,hk]⟩
structure SkH (u:V6) (C:CR) (S:FS) (Bs:Nat) (b x y:Nat->Nat):Prop where
 st:Blk 110 u Bs (stL S)
 bk:∀j,j<3->Blk 102 u (b j) (bkL (S.bk j))
 ax:∀i,i<2->Blk 38 u (x i) (axL C i)
 ix:∀i,i<2->Blk 3 u (y i) [Vi (i:Int)]
theorem SkH.lq{Bs:Nat}{b x y:Nat->Nat}(h:SkH u C S Bs b x y)(m:Bw u u'):SkH u' C S Bs b x y:=⟨h.st.lq m,fun j e=>(h.bk j e).lq m,fun i hi=>(h.ax i hi).lq m,fun i hi=>(h.ix i hi).lq m⟩
theorem KD(C:CR)(S:FS)(w:V6):
 Va 280 #[.agg (crL C).toArray,.agg (stL S).toArray] w fun e w'=>∃g cap J b x y,e=.returned (Vf g 0 8 cap)/\LH w' (some (Ad g 0)) 8 gSt (Jec J b x y)/\SkH w' C S J b x y/\Bw w w':=by
 have B:=Jpb S;have hk:=Jpc S;have hl:=Jpd S;have W:=P2 C;have hn:=P3 C;have H:Hd (Blk 110 ((w.alloc (.cells (crL C).toArray 41)).alloc (.cells (stL S).toArray 110)) (w.heap.size+1) (stL S)):=Za (by have:=Blk.new (w.alloc (.cells (crL C).toArray 41)) 110 (stL S);rw[World.size_alloc] at this;exact this);have Z:=Za ((Blk.new w 41 (crL C)).lq (Zb _ (.cells (stL S).toArray 110)));have m:=Za (Zc (Zb w (.cells (crL C).toArray 41)) (Zb _ (.cells (stL S).toArray 110)));have h:Hd ((((w.alloc (.cells (crL C).toArray 41)).alloc (.cells (stL S).toArray 110)).alloc (.cells #[.func (.func 306) #[] #[Ve (w.heap.size+1) 0]] 186)).ownsRow w.heap.size 186 1 (Vf (w.heap.size+1+1) 0 1 1) 1 [.func (.func 306) #[] #[Ve (w.heap.size+1) 0]]):=Za (by have:=Jl6 (e:=186) [.func (.func 306) #[] #[Ve (w.heap.size+1) 0]] m.o.size (by show 1<=1000;omega);rw[World.size_alloc,World.size_alloc] at this;exact this);have H:=Za (H.o.lq (Zb _ (.cells #[.func (.func 306) #[] #[Ve (w.heap.size+1) 0]] 186)));have Z:=Za (Z.o.lq (Zb _ (.cells #[.func (.func 306) #[] #[Ve (w.heap.size+1) 0]] 186)));have m:=Za (Zc m.o (Zb _ (.cells #[.func (.func 306) #[] #[Ve (w.heap.size+1) 0]] 186)));obtain⟨D,hi,E,F,I⟩:=Jhz
 go_enter func280,ntmps280
 go_upto_region 2 with fail;generalize ((w.alloc (.cells (crL C).toArray 41)).alloc (.cells (stL S).toArray 110)).alloc (.cells #[.func (.func 306) #[] #[Ve (w.heap.size+1) 0]] 186)=v0 at *;generalize w.heap.size+1+1=Bg at *;generalize w.heap.size+1=J at *;have P:=Za (H.o.sub 0 21);rw[Jh0] at P
 go_upto_region 3 with(refine Lm 103 (.tmp 12) rfl J 0 (bk3 S) P.o underlying103 Jl7 ?_);clear P;refine wp_loop_rounds 4 ?_;rw[rounds_succ];have Y:Hd (Blk 102 (v0.alloc (.cells (bkL (S.bk 0)).toArray 102)) v0.heap.size (bkL (S.bk 0))):=Za (Blk.new v0 _ _);have H:=Za (H.o.lq (Zb v0 (.cells (bkL (S.bk 0)).toArray 102)));have Z:=Za (Z.o.lq (Zb v0 (.cells (bkL (S.bk 0)).toArray 102)));have h:=Za (h.o.alloc (.cells (bkL (S.bk 0)).toArray 102));have m:=Za (Zc m.o (Zb v0 (.cells (bkL (S.bk 0)).toArray 102)))
 go_upto_region 5 with(refine Sq 102 _ _ rfl ?_;refine Eh (c':=(bkL (S.bk 0)).toArray) (.tmp 7) (.tmp 16) rfl rfl rfl rfl rfl rfl (Zm _ rfl) ?_);generalize v0.alloc (.cells (bkL (S.bk 0)).toArray 102)=x0 at *;generalize v0.heap.size=b0 at Y|-
 go_wp2_with (at_builtin;refine wpList_append_lies _ rfl _ _ 182 rfl w.heap.size 186 D Value.nilFunc 1 8 underlying182 hi E F I rfl (by decide) _ _ _ rfl (h.o.alloc _) ⟨x0.heap.size,0,none⟩ 1 1 [.func (.func 308) #[] #[Ve b0 0]] rfl rfl (GO x0 _ _) (fun x hx=>by simp at hx;subst hx;rfl) (by omega) (by unfold maxLen;omega) (by omega) (Zc m.o Vc).size _ rfl ?_;intro g0 c0 v1 R ha hc hd;have H:=Za ((H.o.lq Vc).grown (h.o.alloc _) (by decide) ha);have Z:=Za ((Z.o.lq Vc).grown (h.o.alloc _) (by decide) ha);have Y:=Za ((Y.o.lq Vc).grown (h.o.alloc _) (by decide) ha);have m:=Za ((Zc m.o Vc).grown ha (Zc m.o Vc).size (fun q K=>(h.o.lt q K).1));have h:=Za R;clear R ha hc hd);rw[rounds_succ];have Q:Hd (Blk 102 (v1.alloc (.cells (bkL (S.bk 1)).toArray 102)) v1.heap.size (bkL (S.bk 1))):=Za (Blk.new v1 _ _);have H:=Za (H.o.lq (Zb v1 (.cells (bkL (S.bk 1)).toArray 102)));have Z:=Za (Z.o.lq (Zb v1 (.cells (bkL (S.bk 1)).toArray 102)));have Y:=Za (Y.o.lq (Zb v1 (.cells (bkL (S.bk 1)).toArray 102)));have h:=Za (h.o.alloc (.cells (bkL (S.bk 1)).toArray 102));have m:=Za (Zc m.o (Zb v1 (.cells (bkL (S.bk 1)).toArray 102)))
 go_upto_region 5 with(refine Sq 102 _ _ rfl ?_;refine Eh (c':=(bkL (S.bk 1)).toArray) (.tmp 7) (.tmp 16) rfl rfl rfl rfl rfl rfl (Zm _ rfl) ?_);generalize v1.alloc (.cells (bkL (S.bk 1)).toArray 102)=x1 at *;generalize v1.heap.size=b1 at Q|-
 go_wp2_with (at_builtin;refine wpList_append_lies _ rfl _ _ 182 rfl w.heap.size 186 D Value.nilFunc 1 8 underlying182 hi E F I rfl (by decide) _ _ _ rfl (h.o.alloc _) ⟨x1.heap.size,0,none⟩ 1 1 [.func (.func 308) #[] #[Ve b1 0]] rfl rfl (GO x1 _ _) (fun x hx=>by simp at hx;subst hx;rfl) (by omega) (by unfold maxLen;omega) (by omega) (Zc m.o Vc).size _ rfl ?_;intro g1 c1 v2 R ha hc hd;have H:=Za ((H.o.lq Vc).grown (h.o.alloc _) (by decide) ha);have Z:=Za ((Z.o.lq Vc).grown (h.o.alloc _) (by decide) ha);have Y:=Za ((Y.o.lq Vc).grown (h.o.alloc _) (by decide) ha);have Q:=Za ((Q.o.lq Vc).grown (h.o.alloc _) (by decide) ha);have m:=Za ((Zc m.o Vc).grown ha (Zc m.o Vc).size (fun q K=>(h.o.lt q K).1));have h:=Za R;clear R ha hc hd);rw[rounds_succ];have T:Hd (Blk 102 (v2.alloc (.cells (bkL (S.bk 2)).toArray 102)) v2.heap.size (bkL (S.bk 2))):=Za (Blk.new v2 _ _);have H:=Za (H.o.lq (Zb v2 (.cells (bkL (S.bk 2)).toArray 102)));have Z:=Za (Z.o.lq (Zb v2 (.cells (bkL (S.bk 2)).toArray 102)));have Y:=Za (Y.o.lq (Zb v2 (.cells (bkL (S.bk 2)).toArray 102)));have Q:=Za (Q.o.lq (Zb v2 (.cells (bkL (S.bk 2)).toArray 102)));have h:=Za (h.o.alloc (.cells (bkL (S.bk 2)).toArray 102));have m:=Za (Zc m.o (Zb v2 (.cells (bkL (S.bk 2)).toArray 102)))
 go_upto_region 5 with(refine Sq 102 _ _ rfl ?_;refine Eh (c':=(bkL (S.bk 2)).toArray) (.tmp 7) (.tmp 16) rfl rfl rfl rfl rfl rfl (Zm _ rfl) ?_);generalize v2.alloc (.cells (bkL (S.bk 2)).toArray 102)=x2 at *;generalize v2.heap.size=b2 at T|-
 go_wp2_with (at_builtin;refine wpList_append_lies _ rfl _ _ 182 rfl w.heap.size 186 D Value.nilFunc 1 8 underlying182 hi E F I rfl (by decide) _ _ _ rfl (h.o.alloc _) ⟨x2.heap.size,0,none⟩ 1 1 [.func (.func 308) #[] #[Ve b2 0]] rfl rfl (GO x2 _ _) (fun x hx=>by simp at hx;subst hx;rfl) (by omega) (by unfold maxLen;omega) (by omega) (Zc m.o Vc).size _ rfl ?_;intro g2 c2 G R ha hc hd;have H:=Za ((H.o.lq Vc).grown (h.o.alloc _) (by decide) ha);have Z:=Za ((Z.o.lq Vc).grown (h.o.alloc _) (by decide) ha);have Y:=Za ((Y.o.lq Vc).grown (h.o.alloc _) (by decide) ha);have Q:=Za ((Q.o.lq Vc).grown (h.o.alloc _) (by decide) ha);have T:=Za ((T.o.lq Vc).grown (h.o.alloc _) (by decide) ha);have m:=Za ((Zc m.o Vc).grown ha (Zc m.o Vc).size (fun q K=>(h.o.lt q K).1));have h:=Za R;clear R ha hc hd);rw[rounds_succ];have P:=Za (Z.o.sub 0 30);rw[Jbk] at P
 go_upto_region 8 with(refine Lm 39 (.tmp 22) rfl w.heap.size 0 (axL C 0++axL C 1) P.o underlying39 JN ?_);clear P;refine wp_loop_rounds 3 ?_;rw[rounds_succ];have M:Hd (Blk 38 ((G.alloc (.cells #[Vi 0] 3)).alloc (.cells (axL C 0).toArray 38)) (G.heap.size+1) (axL C 0)):=Za (by have:=Blk.new (G.alloc (.cells #[Vi 0] 3)) 38 (axL C 0);rw[World.size_alloc] at this;exact this);have N:Hd (Blk 3 ((G.alloc (.cells #[Vi 0] 3)).alloc (.cells (axL C 0).toArray 38)) G.heap.size [Vi 0]):=Za ((Blk.new G _ _).lq Vc);have H:=Za (H.o.lq (Zc (Zb G (.cells #[Vi 0] 3)) (Zb _ (.cells (axL C 0).toArray 38))));have Z:=Za (Z.o.lq (Zc (Zb G (.cells #[Vi 0] 3)) (Zb _ (.cells (axL C 0).toArray 38))));have Y:=Za (Y.o.lq (Zc (Zb G (.cells #[Vi 0] 3)) (Zb _ (.cells (axL C 0).toArray 38))));have Q:=Za (Q.o.lq (Zc (Zb G (.cells #[Vi 0] 3)) (Zb _ (.cells (axL C 0).toArray 38))));have T:=Za (T.o.lq (Zc (Zb G (.cells #[Vi 0] 3)) (Zb _ (.cells (axL C 0).toArray 38))));have h:=Za (Um h.o (Zc (Zb G (.cells #[Vi 0] 3)) (Zb _ (.cells (axL C 0).toArray 38))));have m:=Za (Zc m.o (Zc (Zb G (.cells #[Vi 0] 3)) (Zb _ (.cells (axL C 0).toArray 38))))
 go_upto_region 10 with(refine Sq 38 _ _ rfl ?_;refine Wx (c':=(axL C 0).toArray) (.tmp 9) (.tmp 27) rfl rfl (by rw[World.size_alloc];rfl) rfl rfl rfl (Zm _ rfl) ?_);generalize ((G.alloc (.cells #[Vi 0] 3)).alloc (.cells (axL C 0).toArray 38))=y0 at *;generalize G.heap.size+1=a0 at M|-;generalize G.heap.size=q0 at N|-
 go_wp2_with (at_builtin;refine wpList_append_lies _ rfl _ _ 182 rfl w.heap.size 186 D Value.nilFunc 1 8 underlying182 hi E F I rfl (by decide) _ _ _ rfl (h.o.alloc _) ⟨y0.heap.size,0,none⟩ 2 2 [.func (.func 310) #[] #[Ve a0 0,Ve J 0,Ve q0 0],.func (.func 312) #[] #[Ve a0 0,Ve J 0,Ve q0 0]] rfl rfl (Jn7 y0 _ _ _) (fun x hx=>by simp at hx;rcases hx with rfl|rfl<;>rfl) (by omega) (by unfold maxLen;omega) (by omega) (Zc m.o Vc).size _ rfl ?_;intro g3 c3 X R ha hc hd;have H:=Za ((H.o.lq Vc).grown (h.o.alloc _) (by decide) ha);have Z:=Za ((Z.o.lq Vc).grown (h.o.alloc _) (by decide) ha);have Y:=Za ((Y.o.lq Vc).grown (h.o.alloc _) (by decide) ha);have Q:=Za ((Q.o.lq Vc).grown (h.o.alloc _) (by decide) ha);have T:=Za ((T.o.lq Vc).grown (h.o.alloc _) (by decide) ha);have M:=Za ((M.o.lq Vc).grown (h.o.alloc _) (by decide) ha);have N:=Za ((N.o.lq Vc).grown (h.o.alloc _) (by decide) ha);have m:=Za ((Zc m.o Vc).grown ha (Zc m.o Vc).size (fun q K=>(h.o.lt q K).1));have h:=Za R;clear R ha hc hd);rw[rounds_succ];have L:Hd (Blk 38 ((X.alloc (.cells #[Vi 1] 3)).alloc (.cells (axL C 1).toArray 38)) (X.heap.size+1) (axL C 1)):=Za (by have:=Blk.new (X.alloc (.cells #[Vi 1] 3)) 38 (axL C 1);rw[World.size_alloc] at this;exact this);have O:Hd (Blk 3 ((X.alloc (.cells #[Vi 1] 3)).alloc (.cells (axL C 1).toArray 38)) X.heap.size [Vi 1]):=Za ((Blk.new X _ _).lq Vc)
 have H:=Za (H.o.lq (Zc (Zb X (.cells #[Vi 1] 3)) (Zb _ (.cells (axL C 1).toArray 38))));have Z:=Za (Z.o.lq (Zc (Zb X (.cells #[Vi 1] 3)) (Zb _ (.cells (axL C 1).toArray 38))));have Y:=Za (Y.o.lq (Zc (Zb X (.cells #[Vi 1] 3)) (Zb _ (.cells (axL C 1).toArray 38))));have Q:=Za (Q.o.lq (Zc (Zb X (.cells #[Vi 1] 3)) (Zb _ (.cells (axL C 1).toArray 38))));have T:=Za (T.o.lq (Zc (Zb X (.cells #[Vi 1] 3)) (Zb _ (.cells (axL C 1).toArray 38))));have M:=Za (M.o.lq (Zc (Zb X (.cells #[Vi 1] 3)) (Zb _ (.cells (axL C 1).toArray 38))));have N:=Za (N.o.lq (Zc (Zb X (.cells #[Vi 1] 3)) (Zb _ (.cells (axL C 1).toArray 38))));have h:=Za (Um h.o (Zc (Zb X (.cells #[Vi 1] 3)) (Zb _ (.cells (axL C 1).toArray 38))));have m:=Za (Zc m.o (Zc (Zb X (.cells #[Vi 1] 3)) (Zb _ (.cells (axL C 1).toArray 38))))
 go_upto_region 10 with(refine Sq 38 _ _ rfl ?_;refine Wx (c':=(axL C 1).toArray) (.tmp 9) (.tmp 27) rfl rfl (by rw[World.size_alloc];rfl) rfl rfl rfl (Zm _ rfl) ?_);generalize ((X.alloc (.cells #[Vi 1] 3)).alloc (.cells (axL C 1).toArray 38))=y1 at *;generalize X.heap.size+1=a1 at L|-;generalize X.heap.size=q1 at O|-
 go_wp2_with (at_builtin;refine wpList_append_lies _ rfl _ _ 182 rfl w.heap.size 186 D Value.nilFunc 1 8 underlying182 hi E F I rfl (by decide) _ _ _ rfl (h.o.alloc _) ⟨y1.heap.size,0,none⟩ 2 2 [.func (.func 310) #[] #[Ve a1 0,Ve J 0,Ve q1 0],.func (.func 312) #[] #[Ve a1 0,Ve J 0,Ve q1 0]] rfl rfl (Jn7 y1 _ _ _) (fun x hx=>by simp at hx;rcases hx with rfl|rfl<;>rfl) (by omega) (by unfold maxLen;omega) (by omega) (Zc m.o Vc).size _ rfl ?_;intro A c4 v5 R ha hc hd;have H:=Za ((H.o.lq Vc).grown (h.o.alloc _) (by decide) ha);have Z:=Za ((Z.o.lq Vc).grown (h.o.alloc _) (by decide) ha);have Y:=Za ((Y.o.lq Vc).grown (h.o.alloc _) (by decide) ha);have Q:=Za ((Q.o.lq Vc).grown (h.o.alloc _) (by decide) ha);have T:=Za ((T.o.lq Vc).grown (h.o.alloc _) (by decide) ha);have M:=Za ((M.o.lq Vc).grown (h.o.alloc _) (by decide) ha);have N:=Za ((N.o.lq Vc).grown (h.o.alloc _) (by decide) ha);have L:=Za ((L.o.lq Vc).grown (h.o.alloc _) (by decide) ha);have O:=Za ((O.o.lq Vc).grown (h.o.alloc _) (by decide) ha);have m:=Za ((Zc m.o Vc).grown ha (Zc m.o Vc).size (fun q K=>(h.o.lt q K).1));have h:=Za R;clear R ha hc hd);rw[rounds_succ];go_wp2_with fail;go_ret;refine⟨A,c4,J,fun j=>if j=0 then b0 else if j=1 then b1 else b2,fun j=>if j=0 then a0 else a1,fun j=>if j=0 then q0 else q1,rfl,Jrm _ _ _ _ h.o,⟨H.o,fun j U=>?_,fun j U=>?_,fun j U=>?_⟩,m.o⟩
 . rcases Qth j with rfl|rfl|rfl
   . exact Y.o
   . exact Q.o
   . exact T.o
 . rcases Qtw j with rfl|rfl
   . exact M.o
   . exact L.o
 . rcases Qtw j with rfl|rfl
   . exact N.o
   . exact O.o
def BP(w:V6)(a:V8)(zs:V9):Prop:=zs=[]\/∃g,a=some (Ad g 0)/\∀k,k<zs.length->Kc w g k (.int .u32 (zs.getD k 0))
theorem BP.lq{w':V6}{a:V8}{zs:V9}(h:BP w a zs)(y:Bw w w'):BP w' a zs:=by
 rcases h with h|⟨g,h,hc⟩
 . exact .inl h
 . exact .inr ⟨g,h,fun k hk=>cell_later y (hc k hk)⟩
theorem IM:(prog.info? 115).map (fun i=>(i.zero,i.size,i.bytes))=some (some (.int .u32 0),1,4):=by kernel_rfl
def pk1(r:Rd):Int:=Z7 r.1 r.2.1 r.2.2.1 r.2.2.2
def pkU(l:List Rd):Nat->List Int
 |0=>[]
 |k+1=>pkU l k++[pk1 (rat l k)]
theorem Jbm(l:List Rd):∀k,(pkU l k).length=k
 |0=>rfl
 |k+1=>by rw[pkU,List.length_append,Jbm l k];rfl
def Yf(r:Rd):Bool:=BN r.1 r.2.1 r.2.2.1 r.2.2.2
theorem KF{n:Nat}{zs:V9}(hn:n=zs.length)(h:w.ownsRow B e 1 (Vf g 0 n cap) n (zs.map (Value.int .u32))):BP w (some (Ad g 0)) zs:=by
 subst hn;refine .inr ⟨g,rfl,fun k hk=>?_⟩
 show World.cell? _ _=_
 rw[h.cellAt k (by omega),List.getElem?_map,List.getD_eq_getElem?_getD,List.getElem?_eq_getElem hk]
 rfl
theorem KG(a:V8)(cap:Nat)(l:List Rd)(h1:1<=l.length)(hl:l.length<=1000)(m:∀k,k<l.length->Yf (rat l k)=true)(w:V6)(H:Rds w a l):
 Va 161 #[.slice a l.length cap] w fun e w'=>(∃g c,e=.returned (.tuple #[Vf g 0 l.length c,.nilIface])/\w.heap.size<=g/\BP w' (some (Ad g 0)) (pkU l l.length))/\Bw w w':=by
 obtain⟨Q,G,R,hi,T⟩:=info_parts IM;have J:=Za H;have K:=Za m;clear H m
 go_enter func161,ntmps161
 go_upto_region 3 with fail
 go_loopw [4,11] (fun M ix wr=>∃k:Nat,k<=l.length/\ix=Vi k/\wr.ownsRow w.heap.size 115 1 M k ((pkU l k).map (Value.int .u32))/\Bw w wr) (fun _ ix _=>l.length-(intOf ix).toNat)
 case atStart=>exact⟨0,by omega,rfl,World.ownsRow_nil _ _ _ _,Below.refl _ _⟩
 case round=>
  obtain⟨k,hk,rfl,ha,hd⟩:=hrel
  by_cases hlt:k<l.length
  . obtain⟨g,rfl,c0,c1,c2,c3⟩:=(J.o.lq hd).at hlt;have Z:=Jgx (rat l k).1 (rat l k).2.1 (rat l k).2.2.1 (rat l k).2.2.2 (K.o k hlt);have Y:Hd (Z7 (rat l k).1 (rat l k).2.1 (rat l k).2.2.1 (rat l k).2.2.2=pk1 (rat l k)):=Za rfl;rw[Y.o] at Z;generalize N:pk1 (rat l k)=z at *;generalize (rat l k).1=r0 at *;generalize (rat l k).2.1=r1 at *;generalize (rat l k).2.2.1=r2 at *;generalize (rat l k).2.2.2=r3 at*
    have I:(0:Int)<=(k:Int):=by omega
    have L:(k:Int)<(l.length:Int):=by omega
    have y:=Za ha;have h:=Za hd;clear ha hd Y
    go_wp2_with (first
     |(go_at_call 198;refine Sb (Z _) fun X j=>?_;have h:=Za (Zc (Zc h.o Vc) j);have y:=Za (Xc (y.o.alloc _) j);clear j)
     |(at_builtin;refine wpList_append_lies _ rfl _ _ 112 rfl w.heap.size 115 Q (.int .u32 0) 1 4 underlying112 G R hi T rfl (by decide) _ _ _ rfl (y.o.alloc _) ⟨X.heap.size,0,none⟩ 1 1 [.int .u32 z] rfl rfl (GO X _ _) (fun x hx=>by simp at hx;subst hx;rfl) (by omega) (by unfold maxLen;omega) (by omega) (Zc h.o Vc).size _ rfl ?_;intro O U A ha hc hn P;have D:=Za ha;have C:=Za ((Zc h.o Vc).grown hc (Zc h.o Vc).size (fun q E=>(y.o.lt q E).1));clear ha hc hn P))
    go_roundw
    case rel=>exact⟨k+1,by omega,by go_num,by rw[pkU,List.map_append,N];exact D.o,C.o⟩
    case measure=>simp[intOf];omega
  . obtain rfl:k=l.length:=by omega
    obtain⟨g,c,F,ho,B⟩:=ha.form (by omega);subst F;have HW:=Za (KF (Jbm l _).symm ha);clear ha;go_wp2_with fail;go_ret2;exact⟨⟨g,c,rfl,ho,HW.o⟩,hd⟩
theorem Jl8{a:V8}{l:List Rd}{G:Nat->Nat}(j:FR K wz w B S C a cap l sv G)(hl:∀i,i<2->(sv i).length<=9)(Z:∀k,k<(rdA sv S.n).length->Yf (rat (rdA sv S.n) k)=true):
 Va 208 #[Ve B 0] w fun e w'=>(∃g c,e=.returned (.tuple #[Vf g 0 (rdA sv S.n).length c,.nilIface])/\w.heap.size<=g/\BP w' (some (Ad g 0)) (pkU (rdA sv S.n) (rdA sv S.n).length))/\Bw w w':=by
 have ha:=UB j hl
 have h1:1<=(rdA sv S.n).length:=by simp[rdA]
 have h2:(rdA sv S.n).length<=1000:=by have:=EA sv hl 2 (by omega);simp[rdA];omega
 have hc:=fun g c u h=>KG (some (Ad g 0)) c (rdA sv S.n) h1 h2 Z u h;clear j
 go_enter func208,ntmps208
 go_wp2_with (first
  |(go_at_call 255;refine ha.mono ?_;rintro e u ⟨⟨g,c,rfl,m⟩,y⟩;have Y:=Za m;have H:=Za y;clear m y)
  |(go_at_call 161;refine(hc _ _ _ Y.o).mono ?_;rintro e v ⟨⟨x,d,rfl,hx,hw⟩,y⟩;have HW:=Za hw;have X:=Za (Nat.le_trans H.o.size hx);have Q:=Za (Zc H.o y);clear hx hw y))
 go_ret2;exact⟨⟨_,_,rfl,X.o,HW.o⟩,Q.o⟩
end Go.Proofs.YtnepnnkdgejheaaGreatDoor
