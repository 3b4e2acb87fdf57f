
import Derived.Test.YtnepnnkdgejheaaGreatDoorKp05
import Derived.Test.YtnepnnkdgejheaaGreatDoorKp12
set_option maxRecDepth 100000
set_option maxHeartbeats 20000000
namespace Go.Proofs.YtnepnnkdgejheaaGreatDoor
open Go.Shelf Go.RowKit Go.Sort Plain Tryz
def TJ:Go.Shelf.Ren:=⟨fun|16=>349|n=>n,fun|3=>3|4=>4|35=>300|38=>190|n=>n,fun n=>n⟩
theorem Jlx:Go.Proofs.SlLaysO.n16 prog TJ:={
 mixed:=by kernel_rfl
 f16:=func349.trans (congrArg some (by kernel_rfl))
 t3:=underlying3
 a3:=Tryz.isAgg3
 z3:=Tryz.sizeOf3
 v3:=Tryz.zeroValue3
 t4:=underlying4
 a4:=Tryz.isAgg4
 z4:=Tryz.sizeOf4
 v4:=Tryz.zeroValue4
 t35:=underlying300
 a35:=Tryz.isAgg300
 z35:=Tryz.sizeOf300
 v35:=Tryz.zeroValue300
 t38:=underlying190
 a38:=Tryz.isAgg190
 z38:=Tryz.sizeOf190
 v38:=Tryz.zeroValue190
}
theorem XY(g:Nat)(h:Array Value)(n:Nat)(p:Nat->Bool)(w:V6)(y:∀args w,(callFunc g args).run prog w=.ok (.enter g args) w)(j:n<4611686018427387904)(H:∀(m:Nat) (os:Array Obj) (i:Nat),i<n->Va g (#[Vi i]++h) (grow (w.drewN m) os) fun e w'=>e=.returned (.bool (p i))/\∃q os',w'=grow ((grow (w.drewN m) os).drewN q) os')(ha:∀a b,a<=b->b<n->p a=true->p b=true):
 Va 349 #[Vi n,.func (.func g) #[] h] w fun e w'=>e=.returned (Vi ((List.range n).countP (fun i=>!p i):Nat))/\∃q os,w'=grow (w.drewN q) os:=
 Any.sort_Search Jlx g h n p w y j H ha
end Go.Proofs.YtnepnnkdgejheaaGreatDoor
namespace Go.Proofs.YtnepnnkdgejheaaGreatDoor
open Go.RowKit Go.Sort Plain Tryz
variable {B Q j:Nat}{H L M N P R x y:Int}{u u' w:V6}{v:Value}
theorem Ziw(L H N P M R lo hi room:Int)(Y:0<=P)(X:P<=2000)(r0:1<=R)(r1:R<=4000)(G:-4000<=lo)(T:hi<=4000)(hc:lo<=hi)(w:V6):
 Va 186 #[.agg #[Vi L,Vi H,Vi N,Vi P,Vi M,Vi R],Vi lo,Vi hi,Vi room] w fun e w'=>(∃h,e=.returned (Vi h)/\BB R P lo hi room h)/\Bw w w':=by
 have y:=Za (GB.new w L H N P M R)
 go_enter func186,ntmps186
 go_wp2;generalize w.alloc (.cells #[Vi L,Vi H,Vi N,Vi P,Vi M,Vi R] 220)=w1 at*
 go_loopw [2] (fun u wr=>∃h:Int,u=Vi h/\lo<=h/\h<=hi/\Hd (∀s,h<s->s<=hi->room<bk R (s+P))/\GB w wr L H N P M R) (fun u _=>(intOf u+4000).toNat)
 case atStart=>exact⟨hi,rfl,hc,Int.le_refl _,Za (fun s h1 h2=>by omega),y.o⟩
 case round=>
  clear y;obtain⟨h,rfl,h0,h1,hs,m⟩:=hrel;rename World=>wr;have y:=Za m;obtain⟨⟨q0,J,K,D,q4,C⟩,_⟩:=m;have Z:=fun w=>(G6 L H N P M R h Y X r0 r1 (by omega) (by omega) w).mono (fun e w' h=>(⟨h.1,by rw[h.2];exact Zb _ _⟩:e=_/\Bw w w'))
  by_cases c1:lo<h
  . by_cases c2:room<bk R (h+P)
    . have hs':Hd (∀s,h-1<s->s<=hi->room<bk R (s+P)):=by
       apply Za;intro s a b
       by_cases e:s=h
       . rw[e];exact c2
       . exact hs.o s (by omega) b
      generalize bk R (h+P)=k at*
      go_wp2_with (go_at_call 180;refine Sb (Z _) fun Q ha=>?_);go_roundw
      case rel=>exact⟨h-1,rfl,by omega,by omega,hs',y.o.lq ha⟩
      case measure=>simp[intOf];omega
    . have j:Hd (BB R P lo hi room h):=Za ⟨h0,h1,Or.inr (by omega),hs.o⟩;generalize bk R (h+P)=k at*
      go_wp2_with (go_at_call 180;refine Sb (Z _) fun Q ha=>?_);go_ret;exact⟨⟨_,rfl,j.o⟩,(y.o.lq ha).2⟩
  . have j:Hd (BB R P lo hi room h):=Za ⟨h0,h1,Or.inl (by omega),hs.o⟩;go_wp2_with fail;go_ret;exact⟨⟨_,rfl,j.o⟩,y.o.2⟩
theorem FI(y:Gro u u')(h:(u.cell? (Ad w.heap.size 0)=some (Vi L)/\u.cell? (Ad w.heap.size 1)=some (Vi H)/\u.cell? (Ad w.heap.size 2)=some (Vi N)/\u.cell? (Ad w.heap.size 3)=some (Vi P)/\u.cell? (Ad w.heap.size 4)=some (Vi M)/\u.cell? (Ad w.heap.size 5)=some (Vi R)/\u.cell? (Ad w.heap.size 6)=some (Vi x))/\Gro w u):(u'.cell? (Ad w.heap.size 0)=some (Vi L)/\u'.cell? (Ad w.heap.size 1)=some (Vi H)/\u'.cell? (Ad w.heap.size 2)=some (Vi N)/\u'.cell? (Ad w.heap.size 3)=some (Vi P)/\u'.cell? (Ad w.heap.size 4)=some (Vi M)/\u'.cell? (Ad w.heap.size 5)=some (Vi R)/\u'.cell? (Ad w.heap.size 6)=some (Vi x))/\Gro w u':=
 ⟨⟨Z4 y.below h.1.1,Z4 y.below h.1.2.1,Z4 y.below h.1.2.2.1,Z4 y.below h.1.2.2.2.1,Z4 y.below h.1.2.2.2.2.1,Z4 y.below h.1.2.2.2.2.2.1,Z4 y.below h.1.2.2.2.2.2.2⟩,h.2.trans y⟩
theorem Jhn(w:V6)(L H N P M R x:Int)(t:TypeId):(fun u=>(V0 u w 0 L/\V0 u w 1 H/\V0 u w 2 N/\V0 u w 3 P/\V0 u w 4 M/\V0 u w 5 R/\V0 u w 6 x)/\Gro w u) (w.alloc (.cells #[Vi L,Vi H,Vi N,Vi P,Vi M,Vi R,Vi x] t)):=by
 refine⟨⟨?_,?_,?_,?_,?_,?_,?_⟩,(Gro.refl w).alloc _⟩<;>simp[go_sem]
theorem TK(L H N P M R x:Int)(g:GR L H N P M R)(J:-2000000<=x)(K:x<=2000000)(s:Int)(j:-4000<=s)(m:s<=4000)(w:V6):
 Va 347 #[.agg #[Vi L,Vi H,Vi N,Vi P,Vi M,Vi R,Vi x],Vi s] w fun e w'=>e=.returned (.bool (decide (bk R (s+P)<=H-N-x)))/\Gro w w':=by
 obtain⟨D,C,h0,h1,n0,n1,Y,X,m0,m1,r0,r1⟩:=g;have ha:=fun w=>(JE L H N P M R s Y X r0 j m w).mono (fun e w' h=>(⟨h.1,by rw[h.2];exact(Gro.refl _).alloc _⟩:e=_/\Gro w w'));have hk:=S4 (R:=R) (f:=s+P) (by omega) (by omega);have hc:=Ut R (s+P);generalize bk R (s+P)=k at *;have v1:=Wr (x+N);have v2:=Wr (x+N+k);have Q:Hd (decide (x+N+k<=H)=decide (k<=H-N-x)):=Za (decide_eq_decide.mpr (by omega));have y:=Za (Jhn w L H N P M R x 449)
 go_enter func347,ntmps347
 go_upto_region 1 with fail;generalize w.alloc (.cells #[Vi L,Vi H,Vi N,Vi P,Vi M,Vi R,Vi x] 449)=w1 at *;have G:(V0 w1 w 0 L/\V0 w1 w 1 H/\V0 w1 w 2 N/\V0 w1 w 3 P/\V0 w1 w 4 M/\V0 w1 w 5 R/\V0 w1 w 6 x)/\Gro w w1:=y.o;have Z:=Za G;obtain⟨⟨q0,E,F,I,q4,O,U⟩,_⟩:=y.o
 go_region_held3 (fun u=>(V0 u w 0 L/\V0 u w 1 H/\V0 u w 2 N/\V0 u w 3 P/\V0 u w 4 M/\V0 u w 5 R/\V0 u w 6 x)/\Gro w u)
  (first
   |(with_reducible assumption)
   |(with_reducible apply FI;with_reducible assumption;with_reducible assumption)
   |(refine FI ?_ Z.o;exact(Gro.refl _).drew))
  (first
   |(go_at_call 195;refine Sb (ha _) fun w' A=>?_))
 all_goals
  rename_i hH
  have T:=Za hH.2;clear hH;go_wp2_with fail;go_ret;exact⟨by rw[<-Q.o];rfl,T.o⟩
theorem TL(L H N P M R x:Int)(g:GR L H N P M R)(J:-2000000<=x)(K:x<=2000000)(s:Int)(j:-4000<=s)(m:s<=4000)(w:V6):
 Va 346 #[.agg #[Vi L,Vi H,Vi N,Vi P,Vi M,Vi R,Vi x],Vi s] w fun e w'=>e=.returned (.bool (decide (bk R (s+P)<=x-N-L)))/\Gro w w':=by
 obtain⟨D,C,h0,h1,n0,n1,Y,X,m0,m1,r0,r1⟩:=g;have ha:=fun w=>(JE L H N P M R s Y X r0 j m w).mono (fun e w' h=>(⟨h.1,by rw[h.2];exact(Gro.refl _).alloc _⟩:e=_/\Gro w w'));have hk:=S4 (R:=R) (f:=s+P) (by omega) (by omega);have hc:=Ut R (s+P);generalize bk R (s+P)=k at *;have v1:=Wr (x-N);have v2:=Wr (x-N-k);have Q:Hd (decide (L<=x-N-k)=decide (k<=x-N-L)):=Za (decide_eq_decide.mpr (by omega));have y:=Za (Jhn w L H N P M R x 449)
 go_enter func346,ntmps346
 go_upto_region 1 with fail;generalize w.alloc (.cells #[Vi L,Vi H,Vi N,Vi P,Vi M,Vi R,Vi x] 449)=w1 at *;have G:(V0 w1 w 0 L/\V0 w1 w 1 H/\V0 w1 w 2 N/\V0 w1 w 3 P/\V0 w1 w 4 M/\V0 w1 w 5 R/\V0 w1 w 6 x)/\Gro w w1:=y.o;have Z:=Za G;obtain⟨⟨q0,E,F,I,q4,O,U⟩,_⟩:=y.o
 go_region_held3 (fun u=>(V0 u w 0 L/\V0 u w 1 H/\V0 u w 2 N/\V0 u w 3 P/\V0 u w 4 M/\V0 u w 5 R/\V0 u w 6 x)/\Gro w u)
  (first
   |(with_reducible assumption)
   |(with_reducible apply FI;with_reducible assumption;with_reducible assumption)
   |(refine FI ?_ Z.o;exact(Gro.refl _).drew))
  (first
   |(go_at_call 195;refine Sb (ha _) fun w' A=>?_))
 all_goals
  rename_i hH
  have T:=Za hH.2;clear hH;go_wp2_with fail;go_ret;exact⟨by rw[<-Q.o];rfl,T.o⟩
theorem Jho(g A B C:Nat)(L H N P M R x lo:Int)(i:Nat)(b:Bool)(W:V6)(lo0:-4000<=lo)(lo1:lo+(i:Int)<=4000)(j:∀args w,(callFunc g args).run prog w=.ok (.enter g args) w)(h:∀w,Va g #[.agg #[Vi L,Vi H,Vi N,Vi P,Vi M,Vi R,Vi x],Vi (lo+(i:Int))] w fun e w'=>e=.returned (.bool b)/\Gro w w')(m:Kc W A 0 (.func (.func g) #[] #[]))(ha:(V2 W B 0 L/\V2 W B 1 H/\V2 W B 2 N/\V2 W B 3 P/\V2 W B 4 M/\V2 W B 5 R/\V2 W B 6 x))(hl:V2 W C 0 lo):
 Va 359 (#[Vi (i:Int)]++#[Ve A 0,Ve B 0,Ve C 0]) W fun e w'=>e=.returned (.bool (!b))/\Gro W w':=by
 obtain⟨Z,Y,X,Q,G,T,J⟩:=ha
 have hi:(0:Int)<=(i:Int):=by omega
 go_enter func359,ntmps359
 go_wp2_with (go_at_fn g;refine Sb (h _) fun w' y=>?_);go_ret;exact⟨rfl,y⟩
theorem K8(y:Array TypeId)(t:TypeId)(p q:Int)(w:V6):(Builtin.max_ y t #[Vi p,Vi q]).run prog w=.ok (Vi (if p<q then q else p)) w:=by
 by_cases h:p<q
 . simp[Builtin.max_,Builtin.max2,h]
 . simp[Builtin.max_,Builtin.max2,h]
theorem TM(y:Array TypeId)(t:TypeId)(p q:Int)(w:V6):(Builtin.min_ y t #[Vi p,Vi q]).run prog w=.ok (Vi (if q<p then q else p)) w:=by
 by_cases h:q<p
 . simp[Builtin.min_,Builtin.min2,h]
 . simp[Builtin.min_,Builtin.min2,h]
theorem Jn5(W:V6)(v:Value)(t:TypeId):(W.alloc (.cells #[v] t)).cell? (Ad W.heap.size 0)=some v:=by simp[go_sem]
theorem GM(g:Nat)(L H N P M R x lo hi room:Int)(r0:1<=R)(E:-4000<=lo)(U:hi<=4000)(hd:lo<=hi)(Q:∀args w,(callFunc g args).run prog w=.ok (.enter g args) w)(G:∀s,-4000<=s->s<=4000->∀w,Va g #[.agg #[Vi L,Vi H,Vi N,Vi P,Vi M,Vi R,Vi x],Vi s] w fun e w'=>e=.returned (.bool (decide (bk R (s+P)<=room)))/\Gro w w')(w:V6):
 Va 345 #[.agg #[Vi L,Vi H,Vi N,Vi P,Vi M,Vi R,Vi x],Vi lo,Vi hi,.func (.func g) #[] #[]] w fun e w'=>(∃h,e=.returned (Vi h)/\BB R P lo hi room h)/\Bw w w':=by
 obtain⟨n,hn⟩:∃n:Nat,(n:Int)=hi-lo+1:=⟨(hi-lo+1).toNat,by omega⟩;obtain⟨y,ha⟩:∃y,y=((w.alloc (.cells #[Vi L,Vi H,Vi N,Vi P,Vi M,Vi R,Vi x] 449)).alloc (.cells #[Vi lo] 3)).alloc (.cells #[.func (.func g) #[] #[]] 451):=⟨_,rfl⟩
 have gro:Gro w y:=by rw[ha];exact(((Gro.refl w).alloc _).alloc _).alloc _
 have F:y.heap.size=w.heap.size+1+1+1:=by rw[ha];simp
 have T:(V0 y w 0 L/\V0 y w 1 H/\V0 y w 2 N/\V0 y w 3 P/\V0 y w 4 M/\V0 y w 5 R/\V0 y w 6 x):=by
  have:=(FI (((Gro.refl _).alloc (.cells #[Vi lo] 3)).alloc (.cells #[.func (.func g) #[] #[]] 451)) (Jhn w L H N P M R x 449)).1;rw[<-ha] at this;exact this
 have Y:y.cell? (Ad (w.heap.size+1) 0)=some (Vi lo):=by
  have h:=Jn5 (w.alloc (.cells #[Vi L,Vi H,Vi N,Vi P,Vi M,Vi R,Vi x] 449)) (Vi lo) 3;rw[World.size_alloc] at h;rw[ha];exact Z4 Vc h
 have J:y.cell? (Ad (w.heap.size+1+1) 0)=some (.func (.func g) #[] #[]):=by
  have h:=Jn5 ((w.alloc (.cells #[Vi L,Vi H,Vi N,Vi P,Vi M,Vi R,Vi x] 449)).alloc (.cells #[Vi lo] 3)) (.func (.func g) #[] #[]) 451;rw[World.size_alloc,World.size_alloc] at h;rw[ha];exact h
 have K:∀args w,(callFunc 359 args).run prog w=.ok (.enter 359 args) w:=enters_of func359 (by kernel_rfl) rfl;have hS:=XY 359 #[Ve (w.heap.size+1+1) 0,Ve w.heap.size 0,Ve (w.heap.size+1) 0] n (fun i=>!decide (bk R (lo+(i:Int)+P)<=room)) y K (by omega)
  (fun m os i hi=>by
   have k:Gro y (grow (y.drewN m) os):=⟨m,os,rfl⟩
   exact(Jho g _ _ _ L H N P M R x lo i _ _ E (by omega) Q (G _ (by omega) (by omega)) (Z4 k.below J) (FI (w:=w) k ⟨T,gro⟩).1 (Z4 k.below Y)))
  (fun a b A B h=>by
   have m:=CB (R:=R) (f:=lo+(a:Int)+P) (g:=lo+(b:Int)+P) (by omega) (by omega)
   simp at h|-;omega)
 have Z:Hd (BB R P lo hi room (lo+(if((List.range n).countP (fun i:Nat=>decide (bk R (lo+(i:Int)+P)<=room)):Int)-1<=0 then 0 else((List.range n).countP (fun i:Nat=>decide (bk R (lo+(i:Int)+P)<=room)):Int)-1))):=Za (WJ r0 (by omega) hd)
 have hc:(List.range n).countP (fun i:Nat=>decide (bk R (lo+(i:Int)+P)<=room))<=n:=by
  have:=List.countP_le_length (p:=fun i:Nat=>decide (bk R (lo+(i:Int)+P)<=room)) (l:=List.range n)
  simpa using this
 simp only[Bool.not_not] at hS;generalize (List.range n).countP (fun i:Nat=>decide (bk R (lo+(i:Int)+P)<=room))=c at *;rw[hn] at hS;have W:=fun I t p q w=>K8 I t p q w
 have hf:(0:Int)<=(c:Int):=by omega
 have hh:(c:Int)<=8001:=by omega
 have D:=Za gro.below;have C:=Za Y;clear gro F T Y J K G hc Q
 by_cases hc0:(c:Int)-1<0
 . have X:Hd (BB R P lo hi room lo):=by
    have:=Z.o;rw[if_pos (by omega),Int.add_zero] at this;exact Za this
   clear Z
   go_enter func345,ntmps345
   go_wp2_with (go_at_call 349;rw[<-ha];refine hS.mono ?_;rintro e w' ⟨rfl,q,os,j⟩;have HW:Hd (Gro y w'):=Za ⟨q,os,j⟩;have O:w'.cell? (Ad (w.heap.size+1) 0)=some (Vi lo):=Z4 HW.o.below C.o;clear j);go_ret;exact⟨⟨_,rfl,X.o⟩,Zc D.o HW.o.below⟩
 . have X:Hd (BB R P lo hi room (lo+((c:Int)-1))):=by
    have:=Z.o
    by_cases e:(c:Int)-1<=0
    . rw[if_pos e] at this;rw[show(c:Int)-1=0 by omega];exact Za this
    . rw[if_neg e] at this;exact Za this
   clear Z
   go_enter func345,ntmps345
   go_wp2_with (go_at_call 349;rw[<-ha];refine hS.mono ?_;rintro e w' ⟨rfl,q,os,j⟩;have HW:Hd (Gro y w'):=Za ⟨q,os,j⟩;have O:w'.cell? (Ad (w.heap.size+1) 0)=some (Vi lo):=Z4 HW.o.below C.o;clear j);go_ret;exact⟨⟨_,rfl,X.o⟩,Zc D.o HW.o.below⟩
def GS(w u:V6)(L H N P M R:Int):Prop:=(V0 u w 0 L/\V0 u w 1 H/\V0 u w 2 N/\V0 u w 3 P/\V0 u w 4 M/\V0 u w 5 R)/\(V3 u w 0 0/\V3 u w 1 0/\u.frozen? (Ad (w.heap.size+1) 0)=false/\u.frozen? (Ad (w.heap.size+1) 1)=false)/\Bw w u
theorem Wp{w':V6}(y:Bw w w')(h:Kc w B j v)(k:w.frozen? (Ad B j)=false):w'.frozen? (Ad B j)=false:=
 (y.frozen (p:=⟨B,j,none⟩) (World.block_lt_of_cell? w _ h)).trans k
theorem TN(h:(V2 w B 0 0/\V2 w B 1 0/\w.frozen? (Ad B 0)=false/\w.frozen? (Ad B 1)=false))(y:Bw w u):(V2 u B 0 0/\V2 u B 1 0/\u.frozen? (Ad B 0)=false/\u.frozen? (Ad B 1)=false):=
 ⟨Z4 y h.1,Z4 y h.2.1,Wp y h.1 h.2.2.1,Wp y h.2.1 h.2.2.2⟩
theorem GS.lq(h:GS w u L H N P M R)(y:Bw u u'):GS w u' L H N P M R:=⟨B6.lq h.1 y,TN h.2.1 y,Zc h.2.2 y⟩
theorem P9(y:Bw u u')(h:(V0 u w 0 L/\V0 u w 1 H/\V0 u w 2 N/\V0 u w 3 P/\V0 u w 4 M/\V0 u w 5 R)/\(V3 u w 0 0/\V3 u w 1 0/\u.frozen? (Ad (w.heap.size+1) 0)=false/\u.frozen? (Ad (w.heap.size+1) 1)=false)/\Bw w u):(V0 u' w 0 L/\V0 u' w 1 H/\V0 u' w 2 N/\V0 u' w 3 P/\V0 u' w 4 M/\V0 u' w 5 R)/\(V3 u' w 0 0/\V3 u' w 1 0/\u'.frozen? (Ad (w.heap.size+1) 0)=false/\u'.frozen? (Ad (w.heap.size+1) 1)=false)/\Bw w u':=GS.lq h y
theorem GS.new(w:V6)(L H N P M R:Int):GS w ((w.alloc (.cells #[Vi L,Vi H,Vi N,Vi P,Vi M,Vi R] 220)).alloc (.cells #[Vi 0,Vi 0] 140)) L H N P M R:=by
 refine⟨(B6.new w L H N P M R 220).lq Vc,⟨?_,?_,?_,?_⟩,Zc Vc Vc⟩<;>simp[go_sem]
def B7(u:V6)(Q:Nat)(L H N P M R x:Int):Prop:=(V2 u Q 0 L/\V2 u Q 1 H/\V2 u Q 2 N/\V2 u Q 3 P/\V2 u Q 4 M/\V2 u Q 5 R/\V2 u Q 6 x)
theorem B7.lq(h:B7 u Q L H N P M R x)(y:Bw u u'):B7 u' Q L H N P M R x:=
 ⟨Z4 y h.1,Z4 y h.2.1,Z4 y h.2.2.1,Z4 y h.2.2.2.1,Z4 y h.2.2.2.2.1,Z4 y h.2.2.2.2.2.1,Z4 y h.2.2.2.2.2.2⟩
theorem Jhp(j:Bw u u')(h:(V2 u Q 0 L/\V2 u Q 1 H/\V2 u Q 2 N/\V2 u Q 3 P/\V2 u Q 4 M/\V2 u Q 5 R/\V2 u Q 6 y)/\Bw w u):(V2 u' Q 0 L/\V2 u' Q 1 H/\V2 u' Q 2 N/\V2 u' Q 3 P/\V2 u' Q 4 M/\V2 u' Q 5 R/\V2 u' Q 6 y)/\Bw w u':=⟨B7.lq h.1 j,Zc h.2 j⟩
theorem Xx{i:Nat}{c:Value}(y:B≠Q)(h:Kc w Q i c):(w.setCell (Ad B j) v).cell? (Ad Q i)=some c:=by
 rw[World.cell?_setCell_other _ _ _ _ (fun e=>y (congrArg Addr.block e))];exact h
theorem Jbc(m:w.heap.size+1≠Q)(h:(V2 u Q 0 L/\V2 u Q 1 H/\V2 u Q 2 N/\V2 u Q 3 P/\V2 u Q 4 M/\V2 u Q 5 R/\V2 u Q 6 y)/\Bw w u):((u.setCell (Ad (w.heap.size+1) j) v).cell? (Ad Q 0)=some (Vi L)/\(u.setCell (Ad (w.heap.size+1) j) v).cell? (Ad Q 1)=some (Vi H)/\(u.setCell (Ad (w.heap.size+1) j) v).cell? (Ad Q 2)=some (Vi N)/\(u.setCell (Ad (w.heap.size+1) j) v).cell? (Ad Q 3)=some (Vi P)/\(u.setCell (Ad (w.heap.size+1) j) v).cell? (Ad Q 4)=some (Vi M)/\(u.setCell (Ad (w.heap.size+1) j) v).cell? (Ad Q 5)=some (Vi R)/\(u.setCell (Ad (w.heap.size+1) j) v).cell? (Ad Q 6)=some (Vi y))/\Bw w (u.setCell (Ad (w.heap.size+1) j) v):=
 ⟨⟨Xx m h.1.1,Xx m h.1.2.1,Xx m h.1.2.2.1,Xx m h.1.2.2.2.1,Xx m h.1.2.2.2.2.1,Xx m h.1.2.2.2.2.2.1,Xx m h.1.2.2.2.2.2.2⟩,h.2.setCell (by simp) _⟩
theorem XZ(j:Bw u u')(h:(V0 u w 0 L/\V0 u w 1 H/\V0 u w 2 N/\V0 u w 3 P/\V0 u w 4 M/\V0 u w 5 R)/\(V2 u Q 0 L/\V2 u Q 1 H/\V2 u Q 2 N/\V2 u Q 3 P/\V2 u Q 4 M/\V2 u Q 5 R/\V2 u Q 6 y)/\(V3 u w 0 0/\V3 u w 1 0/\u.frozen? (Ad (w.heap.size+1) 0)=false/\u.frozen? (Ad (w.heap.size+1) 1)=false)/\Bw w u):(V0 u' w 0 L/\V0 u' w 1 H/\V0 u' w 2 N/\V0 u' w 3 P/\V0 u' w 4 M/\V0 u' w 5 R)/\(V2 u' Q 0 L/\V2 u' Q 1 H/\V2 u' Q 2 N/\V2 u' Q 3 P/\V2 u' Q 4 M/\V2 u' Q 5 R/\V2 u' Q 6 y)/\(V3 u' w 0 0/\V3 u' w 1 0/\u'.frozen? (Ad (w.heap.size+1) 0)=false/\u'.frozen? (Ad (w.heap.size+1) 1)=false)/\Bw w u':=⟨B6.lq h.1 j,B7.lq h.2.1 j,TN h.2.2.1 j,Zc h.2.2.2 j⟩
theorem B7.new(w:V6)(L H N P M R x:Int)(t:TypeId):B7 (w.alloc (.cells #[Vi L,Vi H,Vi N,Vi P,Vi M,Vi R,Vi x] t)) w.heap.size L H N P M R x:=by
 refine⟨?_,?_,?_,?_,?_,?_,?_⟩<;>simp[go_sem]
theorem Jo7{q:Int}(y:gmE L H N P M R q=0):GOK L H N P M R/\-M<=q/\q<=M:=by
 have ha:grE L H N P M R=0:=by unfold gmE at y;split at y<;>simp_all
 have hs:A1 q (-M) M=true:=by
  unfold gmE at y;rw[if_pos ha] at y
  by_cases h:A1 q (-M) M=true
  . exact h
  . rw[if_neg h] at y;cases y
 exact⟨OD ha,(Zw hs).1,(Zw hs).2⟩
theorem YA(L H N P M R x q:Int)(U:gmE L H N P M R q=0)(w:V6):
 Va 323 #[.agg #[Vi L,Vi H,Vi N,Vi P,Vi M,Vi R],Vi x,Vi q] w fun e w'=>(∃a b,e=.returned (.tuple #[.agg #[Vi (-a),Vi b],.nilIface])/\BB R P (-Yu M R q) (-Yi M R q) (Ze x (-2000000) 2000000-N-L) a/\BB R P (Yi M R q) (Yu M R q) (H-N-Ze x (-2000000) 2000000) b)/\Bw w w':=by
 have hc:=LJ L H N P M R q;rw[U,Z0] at hc;obtain⟨g,k0,k1⟩:=Jo7 U;have m:=Za (GS.new w L H N P M R);have A:=g;obtain⟨⟨l0,l1,h0,h1,n0,n1,p0,p1,m0,m1,r0,r1⟩,pm,pr,room⟩:=g;have hg:=Y1 x (-2000000) 2000000
 have B:-2000000<=Ze x (-2000000) 2000000:=by unfold Ze;split<;>(try split)<;>(try split)<;>omega
 have W:Ze x (-2000000) 2000000<=2000000:=by unfold Ze;split<;>(try split)<;>(try split)<;>omega
 have cn:=OE r0 m0 k0 k1;have c0:=Jf4 M R q
 have mx:∀T t w,(Builtin.max_ T t #[Vi (q-R),Vi (-M)]).run prog w=.ok (Vi (Yi M R q)) w:=fun T t w=>by rw[K8];congr 2;unfold Yi;split<;>split<;>congr 1<;>omega
 have mn:∀T t w,(Builtin.min_ T t #[Vi (q+R),Vi M]).run prog w=.ok (Vi (Yu M R q)) w:=fun T t w=>by rw[TM];congr 2;unfold Yu;split<;>split<;>congr 1<;>omega
 have v1:=Wr (q-R);have v2:=Wr (q+R);generalize Ze x (-2000000) 2000000=y at *;generalize Yi M R q=lo at *;generalize Yu M R q=hi at *;obtain⟨cn0,cn1,cn2,cn3,cn4⟩:=cn;have v3:=Wr (-M);have v4:=Wr (-hi);have v5:=Wr (-lo);have hA:=GM 346 L H N P M R y (-hi) (-lo) (y-N-L) r0 (by omega) (by omega) (by omega) (enters_of func346 (by kernel_rfl) rfl) (TL L H N P M R y A.toGR B W);have hB:=GM 347 L H N P M R y lo hi (H-N-y) r0 (by omega) (by omega) (by omega) (enters_of func347 (by kernel_rfl) rfl) (TK L H N P M R y A.toGR B W);clear U room A c0
 go_enter func323,ntmps323
 go_upto_region 4 with(go_at_call 344;refine Sb (hc _) fun j hd=>?_;have m:=Za (m.o.lq hd);obtain⟨⟨q0,D,C,E,q4,F⟩,⟨X,G,I,O⟩,_⟩:=m.o;clear hd);have J:(V0 j w 0 L/\V0 j w 1 H/\V0 j w 2 N/\V0 j w 3 P/\V0 j w 4 M/\V0 j w 5 R)/\(V3 j w 0 0/\V3 j w 1 0/\j.frozen? (Ad (w.heap.size+1) 0)=false/\j.frozen? (Ad (w.heap.size+1) 1)=false)/\Bw w j:=m.o;have Z:=Za J
 go_region_held3 (fun u=>(V0 u w 0 L/\V0 u w 1 H/\V0 u w 2 N/\V0 u w 3 P/\V0 u w 4 M/\V0 u w 5 R)/\(V3 u w 0 0/\V3 u w 1 0/\u.frozen? (Ad (w.heap.size+1) 0)=false/\u.frozen? (Ad (w.heap.size+1) 1)=false)/\Bw w u)
  (first
   |(with_reducible assumption)
   |(with_reducible apply P9;with_reducible assumption;with_reducible assumption)
   |(refine P9 ?_ Z.o;exact Vb)
   |(refine P9 ?_ Z.o;exact Zb _ _)
   |(refine P9 ?_ Z.o;exact Vc.drew))
  (first
   |(go_at_call 264;refine Sm (hg _) ?_))
 all_goals
  rename_i hH
  clear hH Z J q0 D C E q4 F X G I O;have K:(fun Q u=>(V0 u w 0 L/\V0 u w 1 H/\V0 u w 2 N/\V0 u w 3 P/\V0 u w 4 M/\V0 u w 5 R)/\(V2 u Q 0 L/\V2 u Q 1 H/\V2 u Q 2 N/\V2 u Q 3 P/\V2 u Q 4 M/\V2 u Q 5 R/\V2 u Q 6 y)/\(V3 u w 0 0/\V3 u w 1 0/\u.frozen? (Ad (w.heap.size+1) 0)=false/\u.frozen? (Ad (w.heap.size+1) 1)=false)/\Bw w u) j.heap.size (j.alloc (.cells #[Vi L,Vi H,Vi N,Vi P,Vi M,Vi R,Vi y] 449)).drew:=
   ⟨(m.o.lq Vc.drew).1,(B7.new j L H N P M R y 449).lq Vb,(m.o.lq Vc.drew).2.1,(m.o.lq Vc.drew).2.2⟩
  generalize (j.alloc (.cells #[Vi L,Vi H,Vi N,Vi P,Vi M,Vi R,Vi y] 449)).drew=h at*
  have hQ:w.heap.size+1≠j.heap.size:=by have:=World.block_lt_of_cell? j ⟨w.heap.size+1,0,none⟩ m.o.2.1.1;simp at this;omega
  generalize j.heap.size=Q at *;have Z:=Za K;clear m K
  go_upto_region 5 with fail;obtain⟨⟨q0,D,C,E,q4,F⟩,_⟩:=Z.o;have J:(V0 h w 0 L/\V0 h w 1 H/\V0 h w 2 N/\V0 h w 3 P/\V0 h w 4 M/\V0 h w 5 R)/\(V2 h Q 0 L/\V2 h Q 1 H/\V2 h Q 2 N/\V2 h Q 3 P/\V2 h Q 4 M/\V2 h Q 5 R/\V2 h Q 6 y)/\(V3 h w 0 0/\V3 h w 1 0/\h.frozen? (Ad (w.heap.size+1) 0)=false/\h.frozen? (Ad (w.heap.size+1) 1)=false)/\Bw w h:=Z.o
  go_region_held3 (fun u=>(V0 u w 0 L/\V0 u w 1 H/\V0 u w 2 N/\V0 u w 3 P/\V0 u w 4 M/\V0 u w 5 R)/\(V2 u Q 0 L/\V2 u Q 1 H/\V2 u Q 2 N/\V2 u Q 3 P/\V2 u Q 4 M/\V2 u Q 5 R/\V2 u Q 6 y)/\(V3 u w 0 0/\V3 u w 1 0/\u.frozen? (Ad (w.heap.size+1) 0)=false/\u.frozen? (Ad (w.heap.size+1) 1)=false)/\Bw w u)
   (first
    |(with_reducible assumption)
    |(with_reducible apply XZ;with_reducible assumption;with_reducible assumption)
    |(refine XZ ?_ Z.o;exact Vb))
   (fail)
  all_goals
   rename_i hH
   clear hH J q0 D C E q4 F;have K:(fun u=>(V0 u w 0 L/\V0 u w 1 H/\V0 u w 2 N/\V0 u w 3 P/\V0 u w 4 M/\V0 u w 5 R)/\(V2 u Q 0 L/\V2 u Q 1 H/\V2 u Q 2 N/\V2 u Q 3 P/\V2 u Q 4 M/\V2 u Q 5 R/\V2 u Q 6 y)/\(V3 u w 0 0/\V3 u w 1 0/\u.frozen? (Ad (w.heap.size+1) 0)=false/\u.frozen? (Ad (w.heap.size+1) 1)=false)/\Bw w u) h.drew:=XZ Vb Z.o;generalize h.drew=w3 at *;clear Z;have Z:=Za K;clear K
   go_upto_region 6 with fail;obtain⟨_,⟨q0,D,C,E,q4,F,q6⟩,⟨X,G,I,O⟩,_⟩:=Z.o;have J:(V2 w3 Q 0 L/\V2 w3 Q 1 H/\V2 w3 Q 2 N/\V2 w3 Q 3 P/\V2 w3 Q 4 M/\V2 w3 Q 5 R/\V2 w3 Q 6 y)/\Bw w w3:=⟨Z.o.2.1,Z.o.2.2.2⟩
   go_region_held3 (fun u=>(V2 u Q 0 L/\V2 u Q 1 H/\V2 u Q 2 N/\V2 u Q 3 P/\V2 u Q 4 M/\V2 u Q 5 R/\V2 u Q 6 y)/\Bw w u)
    (first
     |(with_reducible assumption)
     |(with_reducible apply Jhp;with_reducible assumption;with_reducible assumption)
     |(refine Jbc ?_ (Jbc ?_ ?_);with_reducible assumption;with_reducible assumption;with_reducible assumption)
     |(refine Jhp ?_ ⟨Z.o.2.1,Z.o.2.2.2⟩;exact Vb))
    (first
     |(go_at_call_of 345 (-hi);refine(hA _).mono ?_;rintro e w' ⟨⟨a,rfl,ha⟩,Y⟩;have Ha:=Za ha;have va:IntKind.i64.wrap (-a)=-a:=Xj (by have:=ha.2.1;omega) (by have:=ha.1;omega);have ya0:w'.cell? (Ad (w.heap.size+1) 0)=some (Vi 0):=Z4 Y (by first|with_reducible assumption|exact X);have yaf0:w'.frozen? (Ad (w.heap.size+1) 0)=false:=Wp Y (by first|with_reducible assumption|exact X) (by first|with_reducible assumption|exact I);have ya1:w'.cell? (Ad (w.heap.size+1) 1)=some (Vi 0):=Z4 Y (by first|with_reducible assumption|exact G);have yaf1:w'.frozen? (Ad (w.heap.size+1) 1)=false:=Wp Y (by first|with_reducible assumption|exact G) (by first|with_reducible assumption|exact O);clear ha)
     |(go_at_call_of 345 lo;refine(hB _).mono ?_;rintro e w' ⟨⟨b,rfl,hf⟩,Y⟩;have Hb:=Za hf;have yb0:w'.cell? (Ad (w.heap.size+1) 0)=some (Vi 0):=Z4 Y (by first|with_reducible assumption|exact X);have ybf0:w'.frozen? (Ad (w.heap.size+1) 0)=false:=Wp Y (by first|with_reducible assumption|exact X) (by first|with_reducible assumption|exact I);have yb1:w'.cell? (Ad (w.heap.size+1) 1)=some (Vi 0):=Z4 Y (by first|with_reducible assumption|exact G);have ybf1:w'.frozen? (Ad (w.heap.size+1) 1)=false:=Wp Y (by first|with_reducible assumption|exact G) (by first|with_reducible assumption|exact O);clear hf))
   all_goals
    rename_i hH
    have HB:=Za hH.2;clear hH;go_wp2_with fail;refine bodyPost_ret (v:=.tuple #[.agg #[Vi (-a),Vi b],.nilIface]) ?_ rfl ⟨⟨a,b,rfl,Ha.o,Hb.o⟩,HB.o⟩
    simp[results,results323,go_sem,yb0,yb1]
theorem Jcb(h:(V0 u w 0 L/\V0 u w 1 H/\V0 u w 2 N/\V0 u w 3 P/\V0 u w 4 M/\V0 u w 5 R)/\Bw w u):((u.setCell (Ad (w.heap.size+1) j) v).cell? (Ad w.heap.size 0)=some (Vi L)/\(u.setCell (Ad (w.heap.size+1) j) v).cell? (Ad w.heap.size 1)=some (Vi H)/\(u.setCell (Ad (w.heap.size+1) j) v).cell? (Ad w.heap.size 2)=some (Vi N)/\(u.setCell (Ad (w.heap.size+1) j) v).cell? (Ad w.heap.size 3)=some (Vi P)/\(u.setCell (Ad (w.heap.size+1) j) v).cell? (Ad w.heap.size 4)=some (Vi M)/\(u.setCell (Ad (w.heap.size+1) j) v).cell? (Ad w.heap.size 5)=some (Vi R))/\Bw w (u.setCell (Ad (w.heap.size+1) j) v):=by
 have y:w.heap.size+1≠w.heap.size:=by omega
 exact⟨⟨Xx y h.1.1,Xx y h.1.2.1,Xx y h.1.2.2.1,Xx y h.1.2.2.2.1,Xx y h.1.2.2.2.2.1,Xx y h.1.2.2.2.2.2⟩,h.2.setCell (by simp) _⟩
theorem ME(L H N P M R x q:Int)(g:GOK L H N P M R)(U:-M<=q)(A:q<=M)(w:V6):
 Va 137 #[.agg #[Vi L,Vi H,Vi N,Vi P,Vi M,Vi R],Vi x,Vi q] w fun e w'=>(∃a b,e=.returned (.agg #[Vi (-a),Vi b])/\BB R P (-Yu M R q) (-Yi M R q) (Ze x (-2000000) 2000000-N-L) a/\BB R P (Yi M R q) (Yu M R q) (H-N-Ze x (-2000000) 2000000) b)/\Bw w w':=by
 have m:=Za (GS.new w L H N P M R);obtain⟨⟨l0,l1,h0,h1,n0,n1,J,K,m0,m1,r0,r1⟩,pm,pr,room⟩:=g;have hd:=Yx x (-2000000) 2000000
 have x0:-2000000<=Ze x (-2000000) 2000000:=by unfold Ze;split<;>(try split)<;>(try split)<;>omega
 have x1:Ze x (-2000000) 2000000<=2000000:=by unfold Ze;split<;>(try split)<;>(try split)<;>omega
 have cn:=OE r0 m0 U A
 have mx:∀Y t w,(Builtin.max_ Y t #[Vi (-M),Vi (q-R)]).run prog w=.ok (Vi (Yi M R q)) w:=fun Y t w=>by rw[K8];congr 2;unfold Yi;split<;>split<;>congr 1<;>omega
 have mn:∀Y t w,(Builtin.min_ Y t #[Vi M,Vi (q+R)]).run prog w=.ok (Vi (Yu M R q)) w:=fun Y t w=>by rw[TM];congr 2;unfold Yu;split<;>split<;>congr 1<;>omega
 generalize Ze x (-2000000) 2000000=y at *;generalize Yi M R q=lo at *;generalize Yu M R q=hi at *;obtain⟨cn0,cn1,cn2,cn3,cn4⟩:=cn;have v1:=Wr (q-R);have v2:=Wr (q+R);have v3:=Wr (-M);have v4:=Wr (-hi);have v5:=Wr (-lo);have v6:=Wr (y-N);have v7:=Wr (y-N-L);have v8:=Wr (H-N);have v9:=Wr (H-N-y);have B:=Ziw L H N P M R (-hi) (-lo) (y-N-L) J K r0 (by omega) (by omega) (by omega) (by omega);have W:=Ziw L H N P M R lo hi (H-N-y) J K r0 (by omega) (by omega) (by omega) (by omega);clear room
 go_enter func137,ntmps137
 go_upto_region 2 with(go_at_call 72;refine Sm (hd _) ?_);generalize (w.alloc (.cells #[Vi L,Vi H,Vi N,Vi P,Vi M,Vi R] 220)).alloc (.cells #[Vi 0,Vi 0] 140)=j at *;obtain⟨⟨q0,D,C,E,q4,F⟩,_⟩:=m.o;have T:(V0 j w 0 L/\V0 j w 1 H/\V0 j w 2 N/\V0 j w 3 P/\V0 j w 4 M/\V0 j w 5 R)/\Bw w j:=⟨m.o.1,m.o.2.2⟩;have Z:=Za T
 go_region_held3 (fun u=>(V0 u w 0 L/\V0 u w 1 H/\V0 u w 2 N/\V0 u w 3 P/\V0 u w 4 M/\V0 u w 5 R)/\Bw w u)
  (first
   |(with_reducible assumption)
   |(with_reducible apply X1;with_reducible assumption;with_reducible assumption)
   |(refine X1 ?_ Z.o;exact Vb))
  (fail)
 all_goals
  rename_i hH
  clear hH T Z q0 D C E q4 F;have X:=Za (m.o.lq Vb);generalize j.drew=w3 at *;clear m
  go_upto_region 3 with fail;obtain⟨⟨q0,D,C,E,q4,F⟩,⟨Q,G,I,O⟩,_⟩:=X.o;have T:(V0 w3 w 0 L/\V0 w3 w 1 H/\V0 w3 w 2 N/\V0 w3 w 3 P/\V0 w3 w 4 M/\V0 w3 w 5 R)/\Bw w w3:=⟨X.o.1,X.o.2.2⟩
  go_region_held3 (fun u=>(V0 u w 0 L/\V0 u w 1 H/\V0 u w 2 N/\V0 u w 3 P/\V0 u w 4 M/\V0 u w 5 R)/\Bw w u)
   (first
    |(with_reducible assumption)
    |(with_reducible apply X1;with_reducible assumption;with_reducible assumption)
    |(refine Jcb (Jcb ?_);with_reducible assumption)
    |(refine X1 ?_ ⟨X.o.1,X.o.2.2⟩;exact Vb))
   (first
    |(go_at_call_of 186 (-hi);refine(B _).mono ?_;rintro e w' ⟨⟨a,rfl,ha⟩,h⟩;have Ha:=Za ha;have va:IntKind.i64.wrap (-a)=-a:=Xj (by have:=ha.2.1;omega) (by have:=ha.1;omega);have ya0:w'.cell? (Ad (w.heap.size+1) 0)=some (Vi 0):=Z4 h (by first|with_reducible assumption|exact Q);have yaf0:w'.frozen? (Ad (w.heap.size+1) 0)=false:=Wp h (by first|with_reducible assumption|exact Q) (by first|with_reducible assumption|exact I);have ya1:w'.cell? (Ad (w.heap.size+1) 1)=some (Vi 0):=Z4 h (by first|with_reducible assumption|exact G);have yaf1:w'.frozen? (Ad (w.heap.size+1) 1)=false:=Wp h (by first|with_reducible assumption|exact G) (by first|with_reducible assumption|exact O);clear ha)
    |(go_at_call_of 186 lo;refine(W _).mono ?_;rintro e w' ⟨⟨b,rfl,hc⟩,h⟩;have Hb:=Za hc;have yb0:w'.cell? (Ad (w.heap.size+1) 0)=some (Vi 0):=Z4 h (by first|with_reducible assumption|exact Q);have ybf0:w'.frozen? (Ad (w.heap.size+1) 0)=false:=Wp h (by first|with_reducible assumption|exact Q) (by first|with_reducible assumption|exact I);have yb1:w'.cell? (Ad (w.heap.size+1) 1)=some (Vi 0):=Z4 h (by first|with_reducible assumption|exact G);have ybf1:w'.frozen? (Ad (w.heap.size+1) 1)=false:=Wp h (by first|with_reducible assumption|exact G) (by first|with_reducible assumption|exact O);clear hc))
  all_goals
   rename_i hH
   have HB:=Za hH.2;clear hH;go_wp2_with fail;refine bodyPost_ret (v:=.agg #[Vi (-a),Vi b]) ?_ rfl ⟨⟨a,b,rfl,Ha.o,Hb.o⟩,HB.o⟩
   simp[results,results137,go_sem,yb0,yb1]
end Go.Proofs.YtnepnnkdgejheaaGreatDoor
