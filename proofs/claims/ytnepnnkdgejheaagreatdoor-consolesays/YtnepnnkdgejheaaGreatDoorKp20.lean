import Derived.Shelf.Sort.Plain
import Derived.Shelf.Slices.In.SortNone
import Derived.Sort.OwnSortedInts
import Derived.OwnWalk
import Derived.Test.YtnepnnkdgejheaaGreatDoorKp14
import Derived.Test.YtnepnnkdgejheaaGreatDoorKp16
import Derived.Test.YtnepnnkdgejheaaGreatDoorKp19
set_option maxRecDepth 100000
set_option maxHeartbeats 20000000
namespace Go.Proofs.YtnepnnkdgejheaaGreatDoor
open Go.Shelf Tryz
def Jdx:Go.Shelf.Ren:=⟨fun|189=>342|125=>298|257=>357|128=>338|129=>190|294=>363|295=>364|296=>365|297=>366|298=>367|299=>368|216=>369|300=>370|301=>371|328=>375|329=>353|330=>354|331=>376|332=>377|215=>299|343=>379|n=>n,fun|28=>34|3=>3|46=>190|0=>0|51=>115|53=>245|4=>4|183=>439|182=>438|131=>62|5=>5|9=>9|218=>458|222=>129|228=>464|229=>465|n=>n,fun|n=>n⟩
theorem Jn2:Go.Proofs.Lays.n189 prog Jdx:={
 mixed:=by kernel_rfl
 f125:=func298.trans (congrArg some (by kernel_rfl))
 f128:=func338.trans (congrArg some (by kernel_rfl))
 f129:=func190.trans (congrArg some (by kernel_rfl))
 f189:=func342.trans (congrArg some (by kernel_rfl))
 f215:=func299.trans (congrArg some (by kernel_rfl))
 f216:=func369.trans (congrArg some (by kernel_rfl))
 f257:=func357.trans (congrArg some (by kernel_rfl))
 f294:=func363.trans (congrArg some (by kernel_rfl))
 f295:=func364.trans (congrArg some (by kernel_rfl))
 f296:=func365.trans (congrArg some (by kernel_rfl))
 f297:=func366.trans (congrArg some (by kernel_rfl))
 f298:=func367.trans (congrArg some (by kernel_rfl))
 f299:=func368.trans (congrArg some (by kernel_rfl))
 f300:=func370.trans (congrArg some (by kernel_rfl))
 f301:=func371.trans (congrArg some (by kernel_rfl))
 f328:=func375.trans (congrArg some (by kernel_rfl))
 f329:=func353.trans (congrArg some (by kernel_rfl))
 f330:=func354.trans (congrArg some (by kernel_rfl))
 f331:=func376.trans (congrArg some (by kernel_rfl))
 f332:=func377.trans (congrArg some (by kernel_rfl))
 f343:=func379.trans (congrArg some (by kernel_rfl))
 t0:=underlying0
 a0:=Tryz.isAgg0
 z0:=Tryz.sizeOf0
 v0:=Tryz.zeroValue0
 t3:=underlying3
 a3:=Tryz.isAgg3
 z3:=Tryz.sizeOf3
 v3:=Tryz.zeroValue3
 t4:=underlying4
 a4:=Tryz.isAgg4
 z4:=Tryz.sizeOf4
 v4:=Tryz.zeroValue4
 t5:=underlying5
 a5:=Tryz.isAgg5
 z5:=Tryz.sizeOf5
 v5:=Tryz.zeroValue5
 t9:=underlying9
 a9:=Tryz.isAgg9
 z9:=Tryz.sizeOf9
 v9:=Tryz.zeroValue9
 t28:=underlying34
 a28:=Tryz.isAgg34
 z28:=Tryz.sizeOf34
 v28:=Tryz.zeroValue34
 t46:=underlying190
 a46:=Tryz.isAgg190
 z46:=Tryz.sizeOf190
 v46:=Tryz.zeroValue190
 t51:=underlying115
 a51:=Tryz.isAgg115
 z51:=Tryz.sizeOf115
 v51:=Tryz.zeroValue115
 t53:=underlying245
 a53:=Tryz.isAgg245
 z53:=Tryz.sizeOf245
 v53:=Tryz.zeroValue245
 t131:=underlying62
 a131:=Tryz.isAgg62
 z131:=Tryz.sizeOf62
 v131:=Tryz.zeroValue62
 t182:=underlying438
 a182:=Tryz.isAgg438
 z182:=Tryz.sizeOf438
 v182:=Tryz.zeroValue438
 t183:=underlying439
 a183:=Tryz.isAgg439
 z183:=Tryz.sizeOf439
 v183:=Tryz.zeroValue439
 t218:=underlying458
 a218:=Tryz.isAgg458
 z218:=Tryz.sizeOf458
 v218:=Tryz.zeroValue458
 t222:=underlying129
 a222:=Tryz.isAgg129
 z222:=Tryz.sizeOf129
 v222:=Tryz.zeroValue129
 t228:=underlying464
 a228:=Tryz.isAgg464
 z228:=Tryz.sizeOf464
 v228:=Tryz.zeroValue464
 t229:=underlying465
 a229:=Tryz.isAgg465
 z229:=Tryz.sizeOf465
 v229:=Tryz.zeroValue465 }
open Go.Sort Go.RowKit Tryz in
theorem Jg9(blk off cap:Nat)(zs:V9)(w:V6)(h:Holds (Value.int .i64) w blk off zs.toArray)(ha:blk<w.heap.size)(j:zs.length<4611686018427387904):
 Va 342 #[Vf blk off zs.length cap] w fun e w'=>
  e=.returned (.tuple #[])/\∃n os,w'=grow (putRow (Value.int .i64) (Sort.ahead w n) blk off (zs.mergeSort fun x y=>decide (x<=y)).toArray) os:=Any.slices_Sort_int Jn2 blk off cap zs w h ha j
open Go.Sort Go.RowKit Tryz in
theorem Jdy(p:V8)(cap:Nat)(w:V6):
 Va 342 #[.slice p 0 cap] w (Re w (.tuple #[])):=Any.slices_Sort_int_none Jn2 p cap w
end Go.Proofs.YtnepnnkdgejheaaGreatDoor
namespace Go.Proofs.YtnepnnkdgejheaaGreatDoor
open Go.RowKit Plain Tryz
variable {B K V Y ca n size:Nat}{R T c l m z:Int}{X u u' w w':V6}{b s:Nat->Int}{e:TypeId}{o t:Nat->Bool}{v:Value}{xs:List Value}{y:Bool}
def AS(t o:Nat->Bool)(s:Nat->Int):Nat->List Int
 |0=>[]
 |k+1=>if BV t o k then AS t o s k++[s k] else AS t o s k
theorem DY(t o:Nat->Bool)(s:Nat->Int):∀k:Nat,(AS t o s k).length<=k
 |0=>by simp[AS]
 |k+1=>by have:=DY t o s k;simp only[AS];split<;>simp<;>omega
def BH(l:V9):List Int:=l.mergeSort fun x y=>decide (x<=y)
theorem DZ(l:V9):(BH l).length=l.length:=List.length_mergeSort l
theorem NF{B':Nat}(h:w.ownsRow B e size v n xs)(y:B'<=B):w.ownsRow B' e size v n xs:=by
 refine⟨h.1,?_⟩
 rcases h.2 with h|⟨g,cap,ha,h1,h2,h3⟩
 . exact .inl h
 . exact .inr ⟨g,cap,ha,h1,Nat.le_trans y h2,h3⟩
theorem OY(b:Nat->Int)(o:Nat->Bool)(l:Int)(t:Nat->Bool)(s:Nat->Int)(w:V6):
 Va 316 #[.agg (Qar b o l),.agg (Qaw t s)] w
  fun e w'=>(∃v,e=.returned v/\w'.ownsRow w.heap.size 3 1 v (BH (AS t o s 3)).length ((BH (AS t o s 3)).map (Value.int .i64)))/\Bw w w':=by
 obtain⟨O,hi,ho,U,hs⟩:=info_parts F0;have R:=Za (show Bw w ((w.alloc (.cells (Qar b o l) 102)).alloc (.cells (Qaw t s) 229)) from Zc Vc Vc)
 have B2:Hd (A5 ((w.alloc (.cells (Qar b o l) 102)).alloc (.cells (Qaw t s) 229)) w.heap.size b o l):=by
  refine⟨?_,?_,?_,?_,?_,?_,?_⟩<;>simp[go_sem,World.cell?_alloc_past]
 go_enter func316,ntmps316
 go_wp2;generalize ((w.alloc (.cells (Qar b o l) 102)).alloc (.cells (Qaw t s) 229))=w2 at*
 go_loopw [5,9] (fun v i wr=>∃(k:Nat) (G:V8) (H:Nat),k<=3/\i=Vi k/\v=.slice G (AS t o s k).length H/\wr.ownsRow w2.heap.size 3 1 v (AS t o s k).length ((AS t o s k).map (Value.int .i64))/\Bw w2 wr) (fun _ i _=>3-(intOf i).toNat)
 case atStart=>exact⟨0,none,0,by omega,rfl,rfl,World.ownsRow_nil _ _ _ _,Below.refl _ _⟩
 case round=>
  obtain⟨k,G,H,hk,rfl,rfl,ha,hc⟩:=hrel;have N:=hc.size
  by_cases hlt:k<3
  . have P:=Joy t s k hlt;have c3:∀T,(wr.alloc T).cell? (Ad w.heap.size (3+k))=some (.bool (o k)):=fun T=>cell_later (Zb wr T) ((B2.o.lq hc).o k hlt);have hl:=DY t o s k;have m:=Za (show AS t o s (k+1)=(if(t k&&!o k) then AS t o s k++[s k] else AS t o s k) from rfl);have Z:=Za hc;clear hc
    have i0':(0:Int)<=(k:Int):=by omega
    have i1':(k:Int)<3:=by omega
    generalize AS t o s k=q at*
    cases h1:t k
    . rw[h1] at P m;have Y:=Za ha;clear ha;go_wp2;go_roundw
      case rel=>exact⟨k+1,G,H,by omega,by go_num,by rw[m.o];rfl,by rw[m.o];exact Y.o.alloc _,Zc Z.o Vc⟩
      case measure=>simp[intOf];omega
    . rw[h1] at P m
      cases h2:o k
      . rw[h2] at c3 m;generalize s k=z at*
        have A:∀(D:Obj) (j:Nat) (u:Value),[Vi z][j]?=some u->((wr.alloc D).alloc (.cells #[Vi z] 3)).cell? ((⟨wr.heap.size+1,0,none⟩:Addr).add j)=some u:=by
         intro D j u J
         cases j with
         |zero=>simp at J;subst J;simp[go_sem,Addr.add]
         |succ j=>simp at J
        go_wp2_with (first
         |(at_builtin;refine wpList_append_lies _ rfl _ _ 34 rfl w2.heap.size 3 O (.int .i64 0) 1 8 underlying34 hi ho U hs rfl (by decide) _ _ _ rfl ((ha.alloc _).alloc _) ⟨wr.heap.size+1,0,none⟩ 1 1 [.int .i64 z] rfl rfl (A _) (fun x hx=>by simp at hx;subst hx;rfl) (by omega) (by unfold maxLen;omega) (by omega) (by simp;omega) _ rfl ?_;intro g cap w3 hd B hB ht))
        go_roundw
        case rel=>
         refine⟨k+1,some (Ad g 0),cap,by omega,by go_num,by rw[m.o];simp,?_,?_⟩
         . rw[m.o,show(if(true&&!false)=true then q++[z] else q)=q++[z] from rfl,List.map_append,List.length_append];exact hd
         . exact((Z.o.alloc N _).alloc (by simp;omega) _).grown B (by simp;omega) (fun q X=>(ha.lt q X).1)
        case measure=>simp[intOf];omega
      . rw[h2] at c3 m;have Y:=Za ha;clear ha;go_wp2;go_roundw
        case rel=>exact⟨k+1,G,H,by omega,by go_num,by rw[m.o];rfl,by rw[m.o];exact Y.o.alloc _,Zc Z.o Vc⟩
        case measure=>simp[intOf];omega
  . have e:k=3:=by omega
    subst e;have Z:=Za hc;clear hc;have C:Hd (w.heap.size<=w2.heap.size):=R.o.size;have hl:=DY t o s 3;obtain⟨q,HQE⟩:∃q,Hd (AS t o s 3=q):=⟨_,rfl⟩;rw[HQE.o] at ha hl|-
    by_cases X:q.length=0
    . have E:Hd (q=[]):=List.length_eq_zero_iff.mp X;rw[X];have Y:=Za ha;clear ha X
      go_wp2_with (go_at_call 342;refine Sm (Jdy _ _ _) ?_);go_ret;refine⟨⟨_,rfl,?_⟩,Zc R.o Z.o⟩;rw[HQE.o,E.o,show BH []=[] by simp[BH]];rw[E.o] at Y;exact NF Y.o C.o
    . obtain⟨g,cap,hC,F,I,Q,hw,hy,hn,K⟩:=ha.2.resolve_left (fun h=>X h.2);simp only[Value.slice.injEq] at F;obtain⟨rfl,_,rfl⟩:=F;have L:=holds_of_blockI Q (by rw[Nat.mul_one] at K;exact K)
      have W:g<wr.heap.size:=by
       rcases Nat.lt_or_ge g wr.heap.size with h|h
       . exact h
       . rw[Array.getElem?_eq_none h] at Q;cases Q
      have hA:=Jg9 g 0 H q wr L W (by omega)
      have HR:Hd (∀n os,(Go.Sort.grow (Go.Sort.putRow (Value.int .i64) (Go.Sort.ahead wr n) g 0 (q.mergeSort fun x y=>decide (x<=y)).toArray) os).ownsRow w2.heap.size 3 1 (Vf g 0 q.length H) q.length ((BH q).map (Value.int .i64))/\Bw w2 (Go.Sort.grow (Go.Sort.putRow (Value.int .i64) (Go.Sort.ahead wr n) g 0 (q.mergeSort fun x y=>decide (x<=y)).toArray) os)):=by
       intro n os;refine⟨ownsRow_sortedI (DZ q) I Q hw hy hn,?_⟩;exact Z.o.grown (grownBy_sortedI _) N (fun k hk=>by cases hk;exact I)
      clear L Q K hn ha
      go_wp2_with (go_at_call 342;refine hA.mono ?_;rintro e w' ⟨rfl,n,os,hw'⟩;have HW:=Za hw';clear hw');go_ret;have M:=HR.o n os;rw[<-HW.o] at M;refine⟨⟨_,rfl,?_⟩,Zc R.o M.2⟩;rw[HQE.o,DZ];exact NF M.1 C.o
def T8:List Int->Int->Int
 |[_,y,_],_=>y
 |[x,y],_=>(x+y)/2
 |[x],_=>x
 |_,last=>last
theorem Eb{zs:V9}(h:w.ownsRow B 3 1 v zs.length (zs.map (Value.int .i64)))(hn:zs≠[]):
 ∃g cap,v=Vf g 0 zs.length cap/\∀j,j<zs.length->w.cell? (Ad g j)=some (Vi (zs.getD j 0)):=by
 obtain⟨g,cap,Z,m,hc,e,hd,Y,X,ha⟩:=h.2.resolve_left (fun h=>hn (List.length_eq_zero_iff.mp h.2));refine⟨g,cap,m,fun j y=>?_⟩;have H:=holds_of_blockI e (by rw[Nat.mul_one] at ha;exact ha);have:=(H j (by simpa using y)).1;simp only[Nat.zero_add] at this;rw[this,List.getD_eq_getElem?_getD,List.getElem?_eq_getElem y]
 simp[y]
theorem XO(zs:V9)(l:Int)(v:Value)(B:Nat)(w:V6)(ha:zs.length<=3)(m:∀z∈zs,-1000000<=z/\z<=1000000)(h:w.ownsRow B 3 1 v zs.length (zs.map (Value.int .i64))):
 Va 315 #[v,Vi l] w (Rt w (.agg #[Vi (T8 zs l),Vi (zs.length:Int)])):=by
 match zs,ha,m,h with
 |[],_,_,h=>
  obtain⟨e,H,rfl⟩:∃e H,v=.slice e 0 H:=by
   rcases h.2 with⟨h,_⟩|⟨g,cap,G,h,_⟩
   . exact⟨none,0,h⟩
   . exact⟨_,_,h⟩
  clear h
  go_enter func315,ntmps315
  go_wp2;exact bodyPost_ret (v:=.agg #[Vi l,Vi 0]) (by simp[results,results315,go_sem]) rfl ⟨rfl,Zb _ _⟩
 |[x],_,_,h=>
  obtain⟨g,cap,rfl,hc⟩:=Eb h (by simp);have c0:=hc 0 (by simp);have n0:=World.block_lt_of_cell? w ⟨g,0,none⟩ c0;clear hc h;simp only[List.getD_cons_zero,List.length_cons,List.length_nil] at c0|-;have d0:∀j,(w.alloc j).cell? (Ad g 0)=some (Vi x):=fun j=>cell_later Vc c0
  go_enter func315,ntmps315
  go_wp2;exact bodyPost_ret (v:=.agg #[Vi x,Vi 1]) (by simp[results,results315,go_sem]) rfl ⟨rfl,Zb _ _⟩
 |[x,y],_,m,h=>
  obtain⟨g,cap,rfl,hc⟩:=Eb h (by simp);have c0:=hc 0 (by simp);have c1:=hc 1 (by simp);have hx:=m x (by simp);have hy:=m y (by simp);clear hc h m;simp only[List.getD_cons_zero,List.getD_cons_succ,List.length_cons,List.length_nil] at c0 c1|-;have d0:∀j,(w.alloc j).cell? (Ad g 0)=some (Vi x):=fun j=>cell_later Vc c0;have d1:∀j,(w.alloc j).cell? (Ad g 1)=some (Vi y):=fun j=>cell_later Vc c1
  have hw:=Wr (x+y)
  go_enter func315,ntmps315
  go_wp2;go_quiet (fail);go_wp2
  rename_i nq
  have Z:=Za (show AF ((w.alloc (.cells #[Vi 0,Vi 0] 231)).drewN nq) w.heap.size 0 0 from AF.lq ⟨by simp[go_sem],by simp[go_sem]⟩ (below_drewN (Below.refl _ _) _));have Y:=Za (below_drewN (Zb w (.cells #[Vi 0,Vi 0] 231)) nq);generalize ((w.alloc (.cells #[Vi 0,Vi 0] 231)).drewN nq)=w1 at *;have hx':=Z.o.setBoth ((x+y)/2) 2;have hb':=(Y.o.setCell (p:=⟨w.heap.size,0,none⟩) (Nat.le_refl _) (Vi ((x+y)/2))).setCell (p:=⟨w.heap.size,1,none⟩) (Nat.le_refl _) (Vi 2);generalize ((w1.setCell (Ad w.heap.size 0) (Vi ((x+y)/2))).setCell (Ad w.heap.size 1) (Vi 2))=w2 at *;obtain⟨X,Q⟩:=hx';exact bodyPost_ret (v:=.agg #[Vi ((x+y)/2),Vi 2]) (by simp[results,results315,go_sem,X,Q]) rfl ⟨rfl,hb'⟩
 |[x,y,z],_,_,h=>
  obtain⟨g,cap,rfl,hc⟩:=Eb h (by simp);have c1:=hc 1 (by simp);clear hc h;simp only[List.getD_cons_zero,List.getD_cons_succ,List.length_cons,List.length_nil] at c1|-;have d1:∀j,(w.alloc j).cell? (Ad g 1)=some (Vi y):=fun j=>cell_later Vc c1
  go_enter func315,ntmps315
  go_wp2;exact bodyPost_ret (v:=.agg #[Vi y,Vi 3]) (by simp[results,results315,go_sem]) rfl ⟨rfl,Zb _ _⟩
theorem Jn3(x y:Int):BH [x,y]=if x<=y then[x,y] else[y,x]:=by
 unfold BH
 by_cases h:x<=y<;>simp[List.mergeSort,List.MergeSort.Internal.splitInTwo,h]
theorem Jrg(x y z:Int):∃p q r,BH [x,y,z]=[p,q,r]/\q=x+y+z-mnI (mnI x y) z-mxI (mxI x y) z:=by
 have e:BH [x,y,z]=List.merge (BH [x,y]) [z] (fun x y=>decide (x<=y)):=by
  unfold BH
  rw[List.mergeSort]
  simp[List.MergeSort.Internal.splitInTwo]
 rw[e,Jn3]
 unfold mnI mxI
 by_cases h1:x<=y
 . by_cases h2:x<=z
   . by_cases h3:y<=z
     . refine⟨x,y,z,by simp[h1,h2,h3],?_⟩;simp only[h1,h2,h3,if_true];omega
     . refine⟨x,z,y,by simp[h1,h2,h3],?_⟩;simp only[h1,h2,h3,if_true,if_false];omega
   . have h3:¬y<=z:=by omega
     refine⟨z,x,y,by simp[h1,h2],?_⟩;simp only[h1,h2,h3,if_true,if_false];omega
 . by_cases h2:y<=z
   . by_cases h3:x<=z
     . refine⟨y,x,z,by simp[h1,h2,h3],?_⟩;simp only[h1,h2,h3,if_true,if_false];omega
     . refine⟨y,z,x,by simp[h1,h2,h3],?_⟩;simp only[h1,h2,h3,if_true,if_false];omega
   . have h3:¬x<=z:=by omega
     refine⟨z,y,x,by simp[h1,h2],?_⟩;simp only[h1,h2,h3,if_false];omega
theorem T9(t o:Nat->Bool)(s:Nat->Int):∀k:Nat,((AS t o s k).length:Int)=Zz t o k
 |0=>rfl
 |k+1=>by have:=T9 t o s k;simp only[AS,Zz];split<;>(try simp)<;>omega
theorem Jln(h:Fit t o s):∀z∈BH (AS t o s 3),-1000000<=z/\z<=1000000:=by
 have hk:∀k:Nat,k<=3->∀z∈AS t o s k,-1000000<=z/\z<=1000000:=by
  intro k
  induction k with
  |zero=>intro _ z y;simp[AS] at y
  |succ k ih=>
   intro hk z y;simp only[AS] at y
   split at y
   . rcases List.mem_append.mp y with h1|h1
     . exact ih (by omega) z h1
     . simp at h1;subst h1;exact h k (by omega) (by assumption)
   . exact ih (by omega) z y
 intro z y;exact hk 3 (Nat.le_refl _) z (List.mem_mergeSort.mp y)
theorem Jlo(l:Int)(h:Fit t o s):T8 (BH (AS t o s 3)) l=AO t o s l:=by
 have y:=h 0 (by omega);have j:=h 1 (by omega);have m:=h 2 (by omega)
 cases c0:BV t o 0<;>cases c1:BV t o 1<;>cases c2:BV t o 2<;>(try replace y:=y c0)<;>(try replace j:=j c1)<;>(try replace m:=m c2)
 case true.true.true=>
  obtain⟨p,q,r,e,w⟩:=Jrg (s 0) (s 1) (s 2)
  have H:mnI 2147483647 (s 0)=s 0:=by unfold mnI;rw[if_neg (by omega)]
  have Z:mxI (-2147483647) (s 0)=s 0:=by unfold mxI;rw[if_pos (by omega)]
  simp[AO,Zz,AL,Yz,Y3,AS,c0,c1,c2,e,T8,w,H,Z]
 case false.false.false=>simp[AO,Zz,AS,c0,c1,c2,BH,T8]
 case true.false.false=>simp[AO,Zz,AL,AS,c0,c1,c2,BH,T8]
 case false.true.false=>simp[AO,Zz,AL,AS,c0,c1,c2,BH,T8]
 case false.false.true=>simp[AO,Zz,AL,AS,c0,c1,c2,BH,T8]
 all_goals
  simp[AO,Zz,AL,AS,c0,c1,c2,Jn3]
  split<;>simp[T8,Int.add_comm]
theorem Xc(h:w.ownsRow B e size v n xs)(y:Bw w w'):w'.ownsRow B e size v n xs:=by
 refine⟨h.1,?_⟩
 rcases h.2 with h|⟨g,cap,ha,h1,h2,h3,h4⟩
 . exact .inl h
 . refine .inr ⟨g,cap,ha,h1,h2,?_,h4⟩;rw[y.block g ?_]
   . exact h3
   . rcases Nat.lt_or_ge g w.heap.size with h|h
     . exact h
     . rw[Array.getElem?_eq_none h] at h3;cases h3
def TA(K:Nat)(w:V6)(V:Nat):Prop:=V2 w V 0 0/\V2 w V 1 0/\w.frozen? (Ad V 0)=false/\w.frozen? (Ad V 1)=false/\K<V
theorem TA.lt(h:TA K w V):K<V:=h.2.2.2.2
theorem Jo1(hK:K<X.heap.size)(h:Below (X.alloc (.cells #[Vi 0,Vi 0] 231)).heap.size (X.alloc (.cells #[Vi 0,Vi 0] 231)) w'):TA K w' X.heap.size:=by
 have hl:X.heap.size<(X.alloc (.cells #[Vi 0,Vi 0] 231)).heap.size:=by simp[go_sem]
 exact⟨cell_later h (by simp[go_sem]),cell_later h (by simp[go_sem]),(h.frozen (p:=⟨X.heap.size,0,none⟩) hl).trans (by simp[go_sem]),(h.frozen (p:=⟨X.heap.size,1,none⟩) hl).trans (by simp[go_sem]),hK⟩
theorem Jn4(hK:K<X.heap.size)(h:Below (X.alloc (.cells #[Vi 0,Vi 0] 231)).drew.heap.size (X.alloc (.cells #[Vi 0,Vi 0] 231)).drew w'):TA K w' X.heap.size:=Jo1 hK (Vb.trans h)
theorem Jhc(y:Bw w w')(h:TA K w V):TA K w' V:=by
 have hl:=World.block_lt_of_cell? w ⟨V,0,none⟩ h.1;exact⟨cell_later y h.1,cell_later y h.2.1,(y.frozen (p:=⟨V,0,none⟩) hl).trans h.2.2.1,(y.frozen (p:=⟨V,1,none⟩) hl).trans h.2.2.2.1,h.2.2.2.2⟩
theorem TB(h:Z9 b l m c t s=0):Xi t s 3=true:=by
 unfold Z9 at h
 split at h
 . split at h
   . split at h
     . assumption
     . omega
   . omega
 . omega
theorem E0(h:Z9 b l m c t s=0):-1000000<=l/\l<=1000000:=by
 unfold Z9 at h
 split at h
 . split at h
   . rename_i h2
     unfold Yk at h2
     split at h2
     . rename_i h3;exact U8 (by simp only[Bool.and_eq_true] at h3;exact h3.2)
     . omega
   . omega
 . omega
theorem TC(h:Z9 b l m c t s=0):∀k,k<3->0<=b k/\b k<=10:=by
 unfold Z9 at h
 split at h
 . split at h
   . rename_i h2
     unfold Yk at h2
     split at h2
     . rename_i h3;exact SZ (by simp only[Bool.and_eq_true] at h3;exact h3.1)
     . omega
   . omega
 . omega
theorem K1(h:Z9 b l m c t s=0):(0<=m/\m<=1000000)/\1<=c/\c<=10:=by
 unfold Z9 at h
 split at h
 . rename_i h2
   unfold Ya at h2
   split at h2
   . rename_i h3;exact JB h3
   . omega
 . omega
theorem K2(y:Bw u u')(h:(V0 u w 0 (b 0)/\V0 u w 1 (b 1)/\V0 u w 2 (b 2)/\V1 u w 3 (.bool (o 0))/\V1 u w 4 (.bool (o 1))/\V1 u w 5 (.bool (o 2))/\V0 u w 6 l)/\(Kc u (w.heap.size+1+1) 0 (.bool (t 0))/\V4 u w 1 (s 0)/\Kc u (w.heap.size+1+1) 2 (.bool (t 1))/\V4 u w 3 (s 1)/\Kc u (w.heap.size+1+1) 4 (.bool (t 2))/\V4 u w 5 (s 2))/\AZ w u b o l m c t s):
 (V0 u' w 0 (b 0)/\V0 u' w 1 (b 1)/\V0 u' w 2 (b 2)/\V1 u' w 3 (.bool (o 0))/\V1 u' w 4 (.bool (o 1))/\V1 u' w 5 (.bool (o 2))/\V0 u' w 6 l)/\(Kc u' (w.heap.size+1+1) 0 (.bool (t 0))/\V4 u' w 1 (s 0)/\Kc u' (w.heap.size+1+1) 2 (.bool (t 1))/\V4 u' w 3 (s 1)/\Kc u' (w.heap.size+1+1) 4 (.bool (t 2))/\V4 u' w 5 (s 2))/\AZ w u' b o l m c t s:=
 ⟨A5.lq h.1 y,AU.lq h.2.1 y,h.2.2.lq y⟩
theorem Jlr{p q:Value}(y:w.heap.size+1+1+1+1<V)(h:(V0 u w 0 (b 0)/\V0 u w 1 (b 1)/\V0 u w 2 (b 2)/\V1 u w 3 (.bool (o 0))/\V1 u w 4 (.bool (o 1))/\V1 u w 5 (.bool (o 2))/\V0 u w 6 l)/\(Kc u (w.heap.size+1+1) 0 (.bool (t 0))/\V4 u w 1 (s 0)/\Kc u (w.heap.size+1+1) 2 (.bool (t 1))/\V4 u w 3 (s 1)/\Kc u (w.heap.size+1+1) 4 (.bool (t 2))/\V4 u w 5 (s 2))/\AZ w u b o l m c t s):
 (((u.setCell (Ad V 0) p).setCell (Ad V 1) q).cell? (Ad w.heap.size 0)=some (Vi (b 0))/\((u.setCell (Ad V 0) p).setCell (Ad V 1) q).cell? (Ad w.heap.size 1)=some (Vi (b 1))/\((u.setCell (Ad V 0) p).setCell (Ad V 1) q).cell? (Ad w.heap.size 2)=some (Vi (b 2))/\((u.setCell (Ad V 0) p).setCell (Ad V 1) q).cell? (Ad w.heap.size 3)=some (.bool (o 0))/\((u.setCell (Ad V 0) p).setCell (Ad V 1) q).cell? (Ad w.heap.size 4)=some (.bool (o 1))/\((u.setCell (Ad V 0) p).setCell (Ad V 1) q).cell? (Ad w.heap.size 5)=some (.bool (o 2))/\((u.setCell (Ad V 0) p).setCell (Ad V 1) q).cell? (Ad w.heap.size 6)=some (Vi l))/\(((u.setCell (Ad V 0) p).setCell (Ad V 1) q).cell? (Ad (w.heap.size+1+1) 0)=some (.bool (t 0))/\((u.setCell (Ad V 0) p).setCell (Ad V 1) q).cell? (Ad (w.heap.size+1+1) 1)=some (Vi (s 0))/\((u.setCell (Ad V 0) p).setCell (Ad V 1) q).cell? (Ad (w.heap.size+1+1) 2)=some (.bool (t 1))/\((u.setCell (Ad V 0) p).setCell (Ad V 1) q).cell? (Ad (w.heap.size+1+1) 3)=some (Vi (s 1))/\((u.setCell (Ad V 0) p).setCell (Ad V 1) q).cell? (Ad (w.heap.size+1+1) 4)=some (.bool (t 2))/\((u.setCell (Ad V 0) p).setCell (Ad V 1) q).cell? (Ad (w.heap.size+1+1) 5)=some (Vi (s 2)))/\AZ w ((u.setCell (Ad V 0) p).setCell (Ad V 1) q) b o l m c t s:=
 ⟨A5.set (A5.set h.1 (by omega)) (by omega),AU.set (AU.set h.2.1 (by omega)) (by omega),(h.2.2.setElse y _).setElse y _⟩
theorem Ja1{v:Int}(j:Bw u u')(h:(V3 u w 0 m/\V3 u w 1 c)/\V2 u V 0 v/\Kc u Y 0 (.bool y)/\V2 u Y 1 z):(V3 u' w 0 m/\V3 u' w 1 c)/\V2 u' V 0 v/\Kc u' Y 0 (.bool y)/\V2 u' Y 1 z:=
 ⟨⟨cell_later j h.1.1,cell_later j h.1.2⟩,cell_later j h.2.1,cell_later j h.2.2.1,cell_later j h.2.2.2⟩
theorem FF{j:Nat}{v:Int}{x:Value}(H:w.heap.size≠V)(e:w.heap.size≠Y)(h:(V3 u w 0 m/\V3 u w 1 c)/\V2 u V 0 v/\Kc u Y 0 (.bool y)/\V2 u Y 1 z):((u.setCell (Ad w.heap.size j) x).cell? (Ad (w.heap.size+1) 0)=some (Vi m)/\(u.setCell (Ad w.heap.size j) x).cell? (Ad (w.heap.size+1) 1)=some (Vi c))/\(u.setCell (Ad w.heap.size j) x).cell? (Ad V 0)=some (Vi v)/\(u.setCell (Ad w.heap.size j) x).cell? (Ad Y 0)=some (.bool y)/\(u.setCell (Ad w.heap.size j) x).cell? (Ad Y 1)=some (Vi z):=
 ⟨⟨Zn h.1.1 (Y4 (by omega)),Zn h.1.2 (Y4 (by omega))⟩,Zn h.2.1 (Y4 H),Zn h.2.2.1 (Y4 e),Zn h.2.2.2 (Y4 e)⟩
theorem Jls(b:Nat->Int)(o:Nat->Bool)(l m c:Int)(t:Nat->Bool)(s:Nat->Int)(R:Z9 b l m c t s=0)(w:V6):
 Va 281 #[.agg (Qar b o l),.agg #[Vi m,Vi c],.agg (Qaw t s)] w
  (Rt w (.tuple #[.agg #[Vi (nbI t o s b (AO t o s l) m 0),Vi (nbI t o s b (AO t o s l) m 1),Vi (nbI t o s b (AO t o s l) m 2),.bool (noB t o s b (AO t o s l) m c 0),.bool (noB t o s b (AO t o s l) m c 1),.bool (noB t o s b (AO t o s l) m c 2),Vi (AO t o s l)],.agg #[Vi (AO t o s l),Vi (Zz t o 3)],.nilIface])):=by
 have A:=Za (Jha w b o l m c t s);have hh:=LR b o l m c t s;rw[R,Z0] at hh
 go_enter func281,ntmps281
 go_upto_region 4 with(go_at_call 314;refine Sb (hh _) fun H hm=>?_;have A:=Za (A.o.lq hm);clear hm);have st0:=A.o;have O:(V0 H w 0 (b 0)/\V0 H w 1 (b 1)/\V0 H w 2 (b 2)/\V1 H w 3 (.bool (o 0))/\V1 H w 4 (.bool (o 1))/\V1 H w 5 (.bool (o 2))/\V0 H w 6 l)/\(Kc H (w.heap.size+1+1) 0 (.bool (t 0))/\V4 H w 1 (s 0)/\Kc H (w.heap.size+1+1) 2 (.bool (t 1))/\V4 H w 3 (s 1)/\Kc H (w.heap.size+1+1) 4 (.bool (t 2))/\V4 H w 5 (s 2))/\AZ w H b o l m c t s:=⟨st0.1.1,st0.2.2.1,st0⟩;have LT0:=Za st0.lt;clear st0 A;have fit:=XL (o:=o) (TB R);have hn:=OY b o l t s;have ho:=XO (BH (AS t o s 3)) l
 have hf:(BH (AS t o s 3)).length<=3:=by rw[DZ];exact DY t o s 3
 have hp:=Jln fit;have EV:=Za (Jlo l fit)
 have EN:Hd (((BH (AS t o s 3)).length:Int)=Zz t o 3):=by rw[DZ];exact T9 t o s 3
 have Z:=Za O
 go_cut [10] (fun p w'=>∃V,p=Ve V 0/\AZ w w' b o l m c t s/\AF w' V (AO t o s l) (Zz t o 3)/\w.heap.size+1+1+1+1<V)
 case first=>
  generalize BH (AS t o s 3)=zs at*
  go_region_held3 (fun u=>(V0 u w 0 (b 0)/\V0 u w 1 (b 1)/\V0 u w 2 (b 2)/\V1 u w 3 (.bool (o 0))/\V1 u w 4 (.bool (o 1))/\V1 u w 5 (.bool (o 2))/\V0 u w 6 l)/\(Kc u (w.heap.size+1+1) 0 (.bool (t 0))/\V4 u w 1 (s 0)/\Kc u (w.heap.size+1+1) 2 (.bool (t 1))/\V4 u w 3 (s 1)/\Kc u (w.heap.size+1+1) 4 (.bool (t 2))/\V4 u w 5 (s 2))/\AZ w u b o l m c t s)
   (first
    |(with_reducible assumption)
    |(with_reducible refine K2 Vc ?_;with_reducible assumption)
    |(with_reducible apply K2;with_reducible assumption;with_reducible assumption)
    |(with_reducible refine K2 Vc y.o)
    |(with_reducible refine Jlr (TA.lt j.o) y.o)
    |(refine K2 ?_ Z.o;exact Vc.drew)
    |(refine K2 ?_ Z.o;exact Vb))
   (first
    |(go_at_call 316;refine(hn _).mono ?_;rintro e w' ⟨⟨v,rfl,hr⟩,h⟩;have LTW:=Za (show w.heap.size+1+1+1+1<w'.heap.size from Nat.lt_of_lt_of_le LT0.o (Nat.le_trans (by simp[go_sem]) h.size));have y:=Za (K2 h (by with_reducible assumption));(first|(have j:=Za (Jo1 (K:=w.heap.size+1+1+1+1) (by first|exact LTW.o|exact LT0.o) h);obtain⟨r0,r1,I,L,_⟩:=j.o)|(have j:=Za (Jn4 (K:=w.heap.size+1+1+1+1) (by first|exact LTW.o|exact LT0.o) h);obtain⟨r0,r1,I,L,_⟩:=j.o)|(have j:=Za (Jhc h j.o);obtain⟨r0,r1,I,L,_⟩:=j.o)|skip))
    |(go_at_call 315;refine Sb (ho _ _ _ hf hp (by first|(with_reducible assumption)|exact Xc (by with_reducible assumption) Vc)) fun w' h=>?_;have y:=Za (K2 h (by with_reducible assumption));(first|(have j:=Za (Jo1 (K:=w.heap.size+1+1+1+1) (by first|exact LTW.o|exact LT0.o) h);obtain⟨r0,r1,I,L,_⟩:=j.o)|(have j:=Za (Jn4 (K:=w.heap.size+1+1+1+1) (by first|exact LTW.o|exact LT0.o) h);obtain⟨r0,r1,I,L,_⟩:=j.o)|(have j:=Za (Jhc h j.o);obtain⟨r0,r1,I,L,_⟩:=j.o)|skip)))
  all_goals
   rename_i hH
   go_wp2_with fail
   go_meet
   (case rel=>
    first
     |exact⟨_,rfl,hH.2.2,by rw[<-EV.o,<-EN.o];exact⟨by simp[go_sem],by simp[go_sem]⟩,y.o.2.2.lt⟩
     |exact⟨_,rfl,hH.2.2,by rw[<-EV.o,<-EN.o];exact AF.setBoth ⟨r0,r1⟩ _ _,TA.lt j.o⟩)
 case rest=>
  obtain⟨V,rfl,hc,hd,hV⟩:=hcut;rename World=>wb;have vb:=OX (l:=l) fit (E0 R).1 (E0 R).2;have mb:=K1 R;have Hb:=Za (TC R);obtain⟨v,HVE⟩:∃v,Hd (AO t o s l=v):=⟨_,rfl⟩;obtain⟨n,HNE⟩:∃n,Hd (Zz t o 3=n):=⟨_,rfl⟩;rw[HVE.o] at hd vb;rw[HNE.o] at hd;have ST:=Za hc;have RV:=Za hd;obtain⟨p0,p1,U,p3,p4,p5⟩:=hc.2.2.1;clear hc hd hn ho hf hp EV EN Z O LT0 fit R hh;have LT:=Za hV;go_wp2
  go_loopw [29] (fun i wr=>∃k:Nat,k<=3/\i=Vi k/\AZ w wr (C5 k (nbI t o s b v m) b) (BW k (noB t o s b v m c) o) l m c t s/\AF wr V v n) (fun i _=>3-(intOf i).toNat)
  case atStart=>exact⟨0,by omega,rfl,by rw[NA,NC];exact ST.o,RV.o⟩
  case round=>
   clear ST RV p0 p1 U p3 p4 p5;obtain⟨k,hk,rfl,hc,hd⟩:=hrel
   by_cases hlt:k<3
   . have ht:=Joy t s k hlt;have c3:∀ob,(wr.alloc ob).cell? (Ad w.heap.size (3+k))=some (.bool (o k)):=fun ob=>cell_later (Zb wr ob) (by have:=hc.1.1.o k hlt;rwa[DW] at this)
     have i0:(0:Int)<=(k:Int):=by omega
     have i1:(k:Int)<3:=by omega
     have bd:=Hb.o k hlt;have Q:=Za (show nbI t o s b v m k=(if o k then b k else OC (b k) (C2 (t k) (s k) v m))/\noB t o s b v m c k=(if o k then true else S3 (b k) (C2 (t k) (s k) v m) c) from⟨rfl,rfl⟩);have STK:=Za hc;have RK:=Za hd
     cases h2:o k
     . rw[h2] at c3;rw[h2] at Q;have STU:=Za (hc.lq (Zb wr (.cells #[.bool (t k),Vi (s k)] 175)));have RU:=Za (hd.lq (Zb wr (.cells #[.bool (t k),Vi (s k)] 175)));have YU:=Za (show(wr.alloc (.cells #[.bool (t k),Vi (s k)] 175)).cell? (Ad wr.heap.size 0)=some (.bool (t k))/\(wr.alloc (.cells #[.bool (t k),Vi (s k)] 175)).cell? (Ad wr.heap.size 1)=some (Vi (s k)) from⟨by simp[go_sem],by simp[go_sem]⟩);have LY:=Za hc.lt;clear hc hd STK RK
       go_upto_region 9 with fail;generalize (wr.alloc (.cells #[.bool (t k),Vi (s k)] 175))=T at *;generalize wr.heap.size=Y at *;clear c3;have c4:=STU.o.1.1.bad k hlt;rw[IG] at c4;have c3:=STU.o.1.1.o k hlt;have z1:=STU.o.1.2.1 k (by omega);have z2:=STU.o.1.2.1 (3+k) (by omega);have hi:=WH (t k) (s k) v m (by omega) (by omega) mb.1.1 mb.1.2;have W:=Jc9 (b k) c (C2 (t k) (s k) v m) bd.1 bd.2;have O:(V3 T w 0 m/\V3 T w 1 c)/\V2 T V 0 v/\Kc T Y 0 (.bool (t k))/\V2 T Y 1 (s k):=⟨STU.o.2.1,RU.o.1,YU.o.1,YU.o.2⟩;have Z:=Za O
       have nV:w.heap.size≠V:=by have:=LT.o;omega
       have nY:w.heap.size≠Y:=by have:=LY.o;omega
       have NVY:=Za (And.intro nV nY);obtain⟨f,HF⟩:∃f,Hd (C2 (t k) (s k) v m=f):=⟨_,rfl⟩;rw[HF.o] at hi W Q;obtain⟨pb,HPB⟩:∃pb,Hd (OC (b k) f=pb):=⟨_,rfl⟩;obtain⟨po,HPO⟩:∃po,Hd (S3 (b k) f c=po):=⟨_,rfl⟩;rw[HPB.o,HPO.o] at W Q;clear nV nY YU LY;refine wp_region_held_drew (S:=fun u=>(V3 u w 0 m/\V3 u w 1 c)/\V2 u V 0 v/\Kc u Y 0 (.bool (t k))/\V2 u Y 1 (s k)) (by kernel_rfl) (Ja1 Vb Z.o) (fun hHeld=>?_);clear O;refine Tp 0 ?_;(try simp only[Act.put]);refine Tp 1 ?_;(try simp only[Act.put]);refine Tp 2 ?_;(try simp only[Act.put]);refine Tp 3 ?_;(try simp only[Act.put]);refine Tp 4 ?_;(try simp only[Act.put]);refine Tp 6 ?_;(try simp only[Act.put]);refine Tp 7 ?_;(try simp only[Act.put]);refine Tp 8 ?_;(try simp only[Act.put]);refine Tp 9 ?_;(try simp only[Act.put]);refine Tp 10 ?_;(try simp only[Act.put]);refine Tp 12 ?_;(try simp only[Act.put]);refine Tp 13 ?_;(try simp only[Act.put]);refine Tp 18 ?_;(try simp only[Act.put]);refine Tp 21 ?_;(try simp only[Act.put]);refine Rb 5 11 (fun K hK=>?_) (fun K hK=>?_)
       . go_simp;refine hK.out _ _ (Ja1 Vb Z.o) (fun hHeld=>?_);clear hK K;refine Ra 11 (fun K hK=>?_);go_simp;refine Sb (hi _) fun w' h=>?_;have ha:=Za (show Bw T w' by first|exact h|exact Vb.trans h);have y:=Za (Ja1 ha.o Z.o);have c4:=cell_later ha.o c4;have c3:=cell_later ha.o c3;have z1:=(STU.o.1.2.lq ha.o).1 k (by omega);have z2:=(STU.o.1.2.lq ha.o).1 (3+k) (by omega);go_wp2_with fail;refine hK.out _ _ y.o (fun hHeld=>?_);clear hK K;refine Ra 14 (fun K hK=>?_);go_simp;refine(W _).mono ?_;rintro e w'' ⟨rfl,J⟩;have J:=J.symm;subst J;go_wp2_with fail;refine hK.out _ _ y.o (fun hHeld=>?_);clear hK K;refine Tp 15 ?_;(try simp only[Act.put]);refine Tp 16 ?_;(try simp only[Act.put]);refine Tp 17 ?_;(try simp only[Act.put]);refine Tp 19 ?_;(try simp only[Act.put]);refine Ra 20 (fun K hK=>?_);go_simp;refine hK.out _ _ (FF NVY.o.1 NVY.o.2 y.o) (fun hHeld=>?_);clear hK K;refine Tp 22 ?_;(try simp only[Act.put]);refine Ra 23 (fun K hK=>?_);go_simp;refine hK.out _ _ (FF NVY.o.1 NVY.o.2 (FF NVY.o.1 NVY.o.2 y.o)) (fun hHeld=>?_);clear hK K;refine Dn ?_;go_wp2;go_roundw
         case rel=>
          refine⟨k+1,by omega,by go_num,?_,?_⟩
          . rw[Uy,Uz,show nbI t o s b v m k=pb from Q.o.1,show noB t o s b v m c k=po from Q.o.2];exact((STU.o.lq ha.o).setBad k hlt _).setOut k hlt _
          . exact((RU.o.lq ha.o).set NVY.o.1).set NVY.o.1
         case measure=>simp[intOf];omega
       . go_simp;refine Sb (hi _) fun w' h=>?_;have ha:=Za (show Bw T w' by first|exact h|exact Vb.trans h);have y:=Za (Ja1 ha.o Z.o);have c4:=cell_later ha.o c4;have c3:=cell_later ha.o c3;have z1:=(STU.o.1.2.lq ha.o).1 k (by omega);have z2:=(STU.o.1.2.lq ha.o).1 (3+k) (by omega);go_wp2_with fail;refine hK.out _ _ y.o (fun hHeld=>?_);clear hK K;refine Ra 5 (fun K hK=>?_);go_simp;refine hK.out _ _ y.o (fun hHeld=>?_);clear hK K;refine Ra 14 (fun K hK=>?_);go_simp;refine(W _).mono ?_;rintro e w'' ⟨rfl,J⟩;have J:=J.symm;subst J;go_wp2_with fail;refine hK.out _ _ y.o (fun hHeld=>?_);clear hK K;refine Tp 15 ?_;(try simp only[Act.put]);refine Tp 16 ?_;(try simp only[Act.put]);refine Tp 17 ?_;(try simp only[Act.put]);refine Tp 19 ?_;(try simp only[Act.put]);refine Ra 20 (fun K hK=>?_);go_simp;refine hK.out _ _ (FF NVY.o.1 NVY.o.2 y.o) (fun hHeld=>?_);clear hK K;refine Tp 22 ?_;(try simp only[Act.put]);refine Ra 23 (fun K hK=>?_);go_simp;refine hK.out _ _ (FF NVY.o.1 NVY.o.2 (FF NVY.o.1 NVY.o.2 y.o)) (fun hHeld=>?_);clear hK K;refine Dn ?_;go_wp2;go_roundw
         case rel=>
          refine⟨k+1,by omega,by go_num,?_,?_⟩
          . rw[Uy,Uz,show nbI t o s b v m k=pb from Q.o.1,show noB t o s b v m c k=po from Q.o.2];exact((STU.o.lq ha.o).setBad k hlt _).setOut k hlt _
          . exact((RU.o.lq ha.o).set NVY.o.1).set NVY.o.1
         case measure=>simp[intOf];omega
     . rw[h2] at c3;rw[h2] at Q;have hj:Hd (nbI t o s b v m k=C5 k (nbI t o s b v m) b k):=Q.o.1.trans (by rw[IG];rfl);have hl:Hd (noB t o s b v m c k=BW k (noB t o s b v m c) o k):=Q.o.2.trans (by rw[DW,h2];rfl);clear hc hd;go_wp2;go_roundw
       case rel=>
        refine⟨k+1,by omega,by go_num,?_,RK.o.lq Vc⟩;rw[Uy,Uz,hj.o,hl.o,ND,FD];exact STK.o.lq Vc
       case measure=>simp[intOf];omega
   . have e:k=3:=by omega
     subst e;have Ha:=Za (hc.setLast v);have q6:=hc.1.1.2.2.2.2.2.2;have z6:=hc.1.2.1 6 (by omega);have vt:=hd.1
     have nV:w.heap.size≠V:=by have:=LT.o;omega
     have Hc:=Za (hd.set (q:=6) (v:=Vi v) nV);clear hc hd nV
     go_upto_region 12 with fail;generalize hs:(World.setCell _ _ (Vi v))=w7 at *;clear hs q6 z6 vt;obtain⟨⟨⟨q0,q1,q2,q3,q4,q5,q6⟩,_⟩,_,_,⟨⟨s0,s1,s2,s3,s4,s5,s6⟩,G,_⟩,⟨⟨p0,p1⟩,U,_⟩,hB⟩:=Ha.o;have I:=G 0 (by omega);have L:=G 1 (by omega);have f2:=G 2 (by omega);have f3:=G 3 (by omega);have f4:=G 4 (by omega);have f5:=G 5 (by omega);have f6:=G 6 (by omega);have g0:=U 0 (by omega);have g1:=U 1 (by omega);obtain⟨v0,v1⟩:=Hc.o;clear hB G U;rw[show C5 3 (nbI t o s b v m) b 0=nbI t o s b v m 0 from rfl] at q0;rw[show C5 3 (nbI t o s b v m) b 1=nbI t o s b v m 1 from rfl] at q1;rw[show C5 3 (nbI t o s b v m) b 2=nbI t o s b v m 2 from rfl] at q2;rw[show BW 3 (noB t o s b v m c) o 0=noB t o s b v m c 0 from rfl] at q3;rw[show BW 3 (noB t o s b v m c) o 1=noB t o s b v m c 1 from rfl] at q4;rw[show BW 3 (noB t o s b v m c) o 2=noB t o s b v m c 2 from rfl] at q5;rw[show zI 0=0 from rfl] at s0;rw[show zI 1=0 from rfl] at s1;rw[show zI 2=0 from rfl] at s2;rw[show zB 0=false from rfl] at s3;rw[show zB 1=false from rfl] at s4;rw[show zB 2=false from rfl] at s5;obtain⟨M,N,P,D,E,F,X⟩:∃M N P D E F,Hd (nbI t o s b v m 0=M/\nbI t o s b v m 1=N/\nbI t o s b v m 2=P/\noB t o s b v m c 0=D/\noB t o s b v m c 1=E/\noB t o s b v m c 2=F):=⟨_,_,_,_,_,_,rfl,rfl,rfl,rfl,rfl,rfl⟩;rw[X.o.1] at q0;rw[X.o.2.1] at q1;rw[X.o.2.2.1] at q2;rw[X.o.2.2.2.1] at q3;rw[X.o.2.2.2.2.1] at q4;rw[X.o.2.2.2.2.2] at q5;have lt:=LT.o
     have n1:¬(w.heap.size+1+1+1=V):=by omega
     have n2:¬(V=w.heap.size+1+1+1):=by omega
     have n3:¬(w.heap.size+1+1+1+1=V):=by omega
     have n4:¬(V=w.heap.size+1+1+1+1):=by omega
     clear lt
     go_region
     all_goals
      go_wp2;have an:=Za (Jaz Ha.o.2.2.2.1.1 Ha.o.2.2.2.2.1.1 (by omega) M N P D E F v v n);have bl:=Za (JZ Ha.o.2.2.2.2.2 (B:=w.heap.size+1+1+1) (C:=w.heap.size+1+1+1+1) (by omega) (by omega) M N P D E F v v n)
      change bodyPost _ _ _ Exit.ret _ (FE w7 (w.heap.size+1+1+1) (w.heap.size+1+1+1+1) M N P D E F v v n).drew
      generalize (FE w7 (w.heap.size+1+1+1) (w.heap.size+1+1+1+1) M N P D E F v v n)=w9 at *;obtain⟨⟨c0,c1,c2,c3,c4,c5,c6⟩,d0,d1⟩:=an.o;exact bodyPost_ret (v:=.tuple #[.agg #[Vi M,Vi N,Vi P,.bool D,.bool E,.bool F,Vi v],.agg #[Vi v,Vi n],.nilIface]) (by simp[results,results281,go_sem,c0,c1,c2,c3,c4,c5,c6,d0,d1]) rfl ⟨by rw[HVE.o,HNE.o,X.o.1,X.o.2.1,X.o.2.2.1,X.o.2.2.2.1,X.o.2.2.2.2.1,X.o.2.2.2.2.2],bl.o.drew⟩
theorem Jd5:(prog.info? 456).map (fun i=>(i.zero,i.size,i.bytes))=some (some .nilIface,1,16):=by kernel_rfl
theorem NM(y:V6)(m:Obj)(X:Value)(t:TypeId):∀j u,[X][j]?=some u->((y.alloc m).alloc (.cells #[X] t)).cell? ((⟨y.heap.size+1,0,none⟩:Addr).add j)=some u:=by
 intro j u h
 cases j with
 |zero=>simp at h;subst h;simp[go_sem,Addr.add]
 |succ j=>simp at h
def tvU(T R:Int)(l:List Sv):Nat->List Value
 |0=>[]
 |k+1=>tvU T R l k++[tv T R (A0 l k)]
theorem IH(T R:Int)(l:List Sv):∀k,(tvU T R l k).length=k
 |0=>rfl
 |k+1=>by simp[tvU,IH T R l k]
theorem Ja8(T R:Int)(l:List Sv):∀n k,k<n->(tvU T R l n)[k]?=some (tv T R (A0 l k))
 |0,k,h=>by omega
 |n+1,k,h=>by
  rw[tvU]
  by_cases e:k=n
  . subst e;rw[List.getElem?_append_right (by rw[IH];omega),IH];simp
  . rw[List.getElem?_append_left (by rw[IH];omega)];exact Ja8 T R l n k (by omega)
theorem TI{a:V8}{cap:Nat}{l:List Sv}(h:w.ownsRow B 456 1 (.slice a l.length cap) l.length (tvU T R l l.length)):WLs w a T R l:=by
 by_cases h0:l.length=0
 . exact .inl (List.length_eq_zero_iff.mp h0)
 . right
   obtain⟨g,c,y,j,m⟩:=h.form (by omega);simp only[Value.slice.injEq] at y;obtain⟨rfl,_,rfl⟩:=y;refine⟨g,0,rfl,fun k hk=>?_⟩
   show w.cell? _=_
   rw[Nat.zero_add,h.cellAt k (by omega)];exact Ja8 T R l _ k hk
theorem XW(T R S C:Int)(l:List Sv)(a:V8)(W n0:Nat)(hn:n0<=l.length)(N:arB T R S C=true)(P:∀j,j<n0->svB T C (A0 l j).1 (A0 l j).2.1 (A0 l j).2.2=true)(hx:n0<l.length->svE T R S C (A0 l n0).1 (A0 l n0).2.1 (A0 l n0).2.2≠0)(hl:l.length<=9)(w:V6)(D:VLs w a l):
 Va 324 #[.agg #[Vi T,Vi R,Vi S,Vi C],.slice a l.length W] w fun e w'=>((n0=l.length/\∃x cap,e=.returned (.tuple #[.slice x l.length cap,.nilIface])/\WLs w' x T R l)\/(n0<l.length/\e=.returned (.tuple #[.slice none 0 0,.iface 22 (Vi (svE T R S C (A0 l n0).1 (A0 l n0).2.1 (A0 l n0).2.2))])))/\Bw w w':=by
 obtain⟨E,hi,F,ho,I⟩:=info_parts Jd5;have G:=Za (RB.new w T R S C);have HA:=Za N;have HV:=Za (D.lq (Zb w (.cells #[Vi T,Vi R,Vi S,Vi C] 172)));have Hf:=Za P;have Hg:=Za hx;have hw:=fun(lo hi:Value) (w:V6)=>Ef lo hi w;clear D P hx N
 go_enter func324,ntmps324
 go_wp2;generalize w.alloc (.cells #[Vi T,Vi R,Vi S,Vi C] 172)=w2 at*
 go_loopw [6,13] (fun v ix wr=>∃(k:Nat) (L:V8) (O:Nat),k<=n0/\ix=Vi k/\v=.slice L k O/\wr.ownsRow w2.heap.size 456 1 v k (tvU T R l k)/\Bw w2 wr) (fun _ ix _=>l.length-(intOf ix).toNat)
 case atStart=>exact⟨0,none,0,by omega,rfl,rfl,World.ownsRow_nil _ _ _ _,Below.refl _ _⟩
 case round=>
  obtain⟨k,L,O,hk,rfl,rfl,H,y⟩:=hrel;have hs:=y.size
  by_cases J:k<l.length
  . obtain⟨bl,ol,rfl,d0,d1,d2⟩:=(HV.o.lq y).at J;obtain⟨q0,q1,q2,q3⟩:=(B4.lq G.o.1 y).lq (Zb wr (.cells #[Vi (A0 l k).1,Vi (A0 l k).2.1,.bool (A0 l k).2.2] 169))
    have j0:(0:Int)<=(k:Int):=by omega
    have j1:(k:Int)<(l.length:Int):=by omega
    have Z:=Za y;clear y
    by_cases hkn:k<n0
    . have U:=Hf.o k hkn;have Y:=Jg4 T R S C (A0 l k).1 (A0 l k).2.1 (A0 l k).2.2 (JX HA.o U);have A:=Za (show tvU T R l (k+1)=tvU T R l k++[tv T R (A0 l k)] from rfl);have B:=Za (show tv T R (A0 l k)=if(A0 l k).2.2 then .iface 453 (.agg #[]) else .iface 454 (.agg #[Vi (loR T R (A0 l k).1 (A0 l k).2.2),Vi (hiR T R (A0 l k).1 (A0 l k).2.2)]) from rfl);clear U;generalize tvU T R l k=q at *;generalize tv T R (A0 l k)=X at *;generalize loR T R (A0 l k).1 (A0 l k).2.2=lo at *;generalize hiR T R (A0 l k).1 (A0 l k).2.2=hi' at *;generalize (A0 l k).1=i at *;generalize (A0 l k).2.1=b at *;generalize (A0 l k).2.2=o at*
      cases o
      . go_wp2_with (first
         |(go_at_call 348;refine Sb (Y _) fun h ha=>?_;have Q:=Za (Xc (H.alloc _) ha);have m:=Za (Zc (Zc Z.o Vc) ha);have K:=m.o.size;obtain⟨z0,z1,z2⟩:=((B3.new wr (Vi i) (Vi b) (.bool false) 169).lq ha).lq (Zb h (.cells #[Vi lo,Vi hi'] 140));clear ha)
         |(at_builtin;refine wpList_append_lies _ rfl _ _ 430 rfl w2.heap.size 456 E .nilIface 1 16 underlying430 hi F ho I rfl (by decide) _ _ _ rfl ((Q.o.alloc _).alloc _) ⟨h.heap.size+1,0,none⟩ 1 1 [.iface 454 (.agg #[.int .i64 lo,.int .i64 hi'])] rfl rfl (NM h _ _ _) (fun x hx=>by simp at hx;subst hx;rfl) (by omega) (by unfold maxLen;omega) (by omega) (by simp;omega) _ rfl ?_;intro g cap w3 hc hd hu hj))
        go_roundw
        case rel=>
         refine⟨k+1,some (Ad g 0),cap,by omega,by go_num,rfl,?_,?_⟩
         . rw[A.o,B.o];exact hc
         . exact((m.o.alloc K _).alloc (by simp;omega) _).grown hd (by simp;omega) (fun q M=>(Q.o.lt q M).1)
        case measure=>simp[intOf];omega
      . go_wp2_with (first
         |(go_at_call 348;refine Sb (Y _) fun h ha=>?_;have Q:=Za (Xc (H.alloc _) ha);have m:=Za (Zc (Zc Z.o Vc) ha);have K:=m.o.size;obtain⟨z0,z1,z2⟩:=((B3.new wr (Vi i) (Vi b) (.bool true) 169).lq ha).lq (Zb h (.cells #[Vi lo,Vi hi'] 140));clear ha)
         |(at_builtin;refine wpList_append_lies _ rfl _ _ 430 rfl w2.heap.size 456 E .nilIface 1 16 underlying430 hi F ho I rfl (by decide) _ _ _ rfl ((Q.o.alloc _).alloc _) ⟨h.heap.size+1,0,none⟩ 1 1 [.iface 453 (.agg #[])] rfl rfl (NM h _ _ _) (fun x hx=>by simp at hx;subst hx;rfl) (by omega) (by unfold maxLen;omega) (by omega) (by simp;omega) _ rfl ?_;intro g cap w3 hc hd hu hj))
        go_roundw
        case rel=>
         refine⟨k+1,some (Ad g 0),cap,by omega,by go_num,rfl,?_,?_⟩
         . rw[A.o,B.o];exact hc
         . exact((m.o.alloc K _).alloc (by simp;omega) _).grown hd (by simp;omega) (fun q M=>(Q.o.lt q M).1)
        case measure=>simp[intOf];omega
    . have e:k=n0:=by omega
      subst e;have Y:=Jdu T R S C (A0 l k).1 (A0 l k).2.1 (A0 l k).2.2 (Hg.o J);clear H;obtain⟨x,HXE⟩:∃x,Hd (svE T R S C (A0 l k).1 (A0 l k).2.1 (A0 l k).2.2=x):=⟨_,rfl⟩;rw[HXE.o] at Y
      go_wp2_with (go_at_call 348;refine Sb (Y _) fun h ha=>?_;have m:=Za (Zc (Zc Z.o Vc) ha);clear ha);go_ret2;exact⟨.inr ⟨J,by rw[HXE.o];rfl⟩,Zc G.o.2 (Zc m.o Vc)⟩
  . have e:k=l.length:=by omega
    have e2:n0=l.length:=by omega
    subst e;have HW:=Za (TI H);have Z:=Za y;clear H y;go_wp2;go_ret2;exact⟨.inl ⟨e2,_,_,rfl,HW.o⟩,Zc G.o.2 Z.o⟩
def FB(w:V6)(B h:Nat)(a:V8)(T R s:Int)(l:List Sv):Prop:=(Kc w B 0 (.slice a l.length h)/\V2 w (B+1) 0 T/\V2 w (B+1+1) 0 s)/\WLs w a T R l
theorem FB.lq{a:V8}{s:Int}{l:List Sv}(h:FB w B ca a T R s l)(y:Bw w w'):FB w' B ca a T R s l:=⟨⟨cell_later y h.1.1,cell_later y h.1.2.1,cell_later y h.1.2.2⟩,h.2.lq y⟩
theorem Jn6{a:V8}{s:Int}{l:List Sv}(y:Bw u u')(h:((Kc u B 0 (.slice a l.length ca)/\V2 u (B+1) 0 T/\V2 u (B+1+1) 0 s)/\WLs u a T R l)/\Bw w u):((Kc u' B 0 (.slice a l.length ca)/\V2 u' (B+1) 0 T/\V2 u' (B+1+1) 0 s)/\WLs u' a T R l)/\Bw w u':=
 ⟨⟨⟨cell_later y h.1.1.1,cell_later y h.1.1.2.1,cell_later y h.1.1.2.2⟩,h.1.2.lq y⟩,Zc h.2 y⟩
theorem TR(T R S C s:Int)(l:List Sv)(a:V8)(h B:Nat)(i:Int)(e:-5000<=i)(H:i<=5000)(Y:-1000<=T)(X:T<=1000)(hc:AV T R S C l)(hl:l.length<=9)(w:V6)(hw:FB w B h a T R s l):
 Va 350 #[Vi i,Ve B 0,Ve (B+1) 0,Ve (B+1+1) 0] w (Rt w (.bool (decide (s<tot T R l (i-T))))):=by
 have hd:∀u,WLs u a T R l->Va 325 #[.slice a l.length h,Vi (i-T)] u (Rt u (Vi (tot T R l (i-T)))):=fun u y=>Mt T R S C l (i-T) a h hc hl u y;have v1:=Wr (i-T);have ha:∀u,(((Kc u B 0 (.slice a l.length h)/\V2 u (B+1) 0 T/\V2 u (B+1+1) 0 s)/\WLs u a T R l)/\Bw w u)->Va 325 #[.slice a l.length h,Vi (i-T)] u (Rt u (Vi (tot T R l (i-T)))):=fun u y=>hd u y.1.2;have j:((Kc w B 0 (.slice a l.length h)/\V2 w (B+1) 0 T/\V2 w (B+1+1) 0 s)/\WLs w a T R l)/\Bw w w:=⟨hw,Below.refl _ _⟩;have Z:=Za j;clear hc hd hw;generalize tot T R l (i-T)=t at*
 go_enter func350,ntmps350
 go_upto_region 1 with fail
 go_region_held3 (fun u=>((Kc u B 0 (.slice a l.length h)/\V2 u (B+1) 0 T/\V2 u (B+1+1) 0 s)/\WLs u a T R l)/\Bw w u)
  (first
   |(with_reducible assumption)
   |(with_reducible apply Jn6;with_reducible assumption;with_reducible assumption)
   |(refine Jn6 ?_ Z.o;exact Vb))
  (first
   |(go_at_call 325;refine Sb (ha _ (by with_reducible assumption)) fun w' Q=>?_))
 all_goals
  rename_i hH
  have m:=Za hH.2;clear hH;go_wp2_with fail;go_ret;exact⟨rfl,m.o⟩
def TS(T R s:Int)(l:List Sv)(n i j:Int):Prop:=0<=i/\i<=j/\j<=n/\(i=0\/tot T R l (i-1-T)<=s)/\(j=n\/s<tot T R l (j-T))
theorem TU(T R S C s:Int)(l:List Sv)(a:V8)(Q B:Nat)(n:Int)(n0:0<=n)(n1:n<=4000)(M:-1000<=T)(N:T<=1000)(hc:AV T R S C l)(hl:l.length<=9)(w:V6)(hw:FB w B Q a T R s l):
 Va 349 #[Vi n,.func (.func 350) #[] #[Ve B 0,Ve (B+1) 0,Ve (B+1+1) 0]] w fun e w'=>(∃i,e=.returned (Vi i)/\TS T R s l n i i)/\Bw w w':=by
 have HW:=Za hw;have P:=Za hc;clear hw hc
 go_enter func349,ntmps349
 go_wp2
 go_loopw [5,6] (fun x y wr=>∃i j:Int,x=Vi i/\y=Vi j/\TS T R s l n i j/\Bw w wr) (fun x y _=>(intOf y-intOf x).toNat)
 case atStart=>exact⟨0,n,rfl,rfl,⟨by omega,n0,by omega,.inl rfl,.inl rfl⟩,Below.refl _ _⟩
 case round=>
  obtain⟨i,j,rfl,rfl,hF,m⟩:=hrel;have Z:=Za hF;obtain⟨L,O,U,_,_⟩:=hF;have Y:=Za m
  by_cases hlt:i<j
  . have hd:=fun h h0 h1 u D=>TR T R S C s l a Q B h h0 h1 M N P.o hl u D;have E:=Za (HW.o.lq m);clear m;have H:=hd ((i+j)/2) (by omega) (by omega) wr E.o;clear hd
    by_cases hq:s<tot T R l ((i+j)/2-T)
    . rw[decide_eq_true hq] at H;have X:=Za hq;clear hq
      go_wp2_with (go_at_call 350;refine H.mono ?_;rintro e F ⟨rfl,ha⟩);go_roundw
      case rel=>
       obtain⟨G,I,J,f3,K⟩:=Z.o;exact⟨i,(i+j)/2,rfl,rfl,⟨G,by omega,by omega,f3,.inr X.o⟩,Zc Y.o ha⟩
      case measure=>simp[intOf];omega
    . rw[decide_eq_false hq] at H;have X:=Za hq;clear hq
      go_wp2_with (go_at_call 350;refine H.mono ?_;rintro e F ⟨rfl,ha⟩);go_roundw
      case rel=>
       obtain⟨G,I,J,f3,K⟩:=Z.o;exact⟨(i+j)/2+1,j,rfl,rfl,⟨by omega,by omega,J,.inr (by rw[show(i+j)/2+1-1-T=(i+j)/2-T by omega];have:=X.o;omega),K⟩,Zc Y.o ha⟩
      case measure=>simp[intOf];omega
  . have e:i=j:=by omega
    subst e;clear m;go_wp2;go_ret;exact⟨⟨_,rfl,Z.o⟩,Y.o⟩
theorem Jd7{s:Int}{l:List Sv}(h0:tot T R l (-T)<=s){i:Int}(h:TS T R s l (2*T+1) i i):C4 T R l s (i-1-T):=by
 obtain⟨j,_,m,f3,y⟩:=h
 have hi:i≠0:=by
  intro e;subst e
  rcases y with y|y
  . omega
  . rw[show(0:Int)-T=-T by omega] at y;omega
 refine⟨by omega,by omega,?_,fun ha=>?_⟩
 . rcases f3 with f3|f3
   . exact absurd f3 hi
   . exact f3
 . rcases y with y|y
   . omega
   . rw[show i-1-T+1=i-T by omega];exact y
theorem LV(T R S C s v:Int)(l:List Sv)(a:V8)(h:Nat)(J:0<=T)(Z:T<=1000)(j:AV T R S C l)(hl:l.length<=9)(h0:tot T R l (-T)<=s)(m:C4 T R l s v)(w:V6)(hw:WLs w a T R l):
 Va 327 #[.slice a l.length h,Vi T,Vi s] w (Rt w (Vi v)):=by
 have H:Hd (FB (((w.alloc (.cells #[.slice a l.length h] 430)).alloc (.cells #[Vi T] 3)).alloc (.cells #[Vi s] 3)) w.heap.size h a T R s l):=by
  refine⟨⟨?_,?_,?_⟩,((hw.lq Vc).lq Vc).lq Vc⟩<;>simp[go_sem,World.cell?_alloc_past]
 have y:=Za (Zc (Zc (Zb w (.cells #[.slice a l.length h] 430)) (Zb _ (.cells #[Vi T] 3))) (Zb _ (.cells #[Vi s] 3)));have hc:=fun u Y=>TU T R S C s l a h w.heap.size (2*T+1) (by omega) (by omega) (by omega) Z j hl u Y;have X:Hd (∀i,TS T R s l (2*T+1) i i->i-1-T=v):=fun i hi=>(Jd7 h0 hi).unique m;have Q:Hd (∀i,TS T R s l (2*T+1) i i->0<=i/\i<=3000):=fun i hi=>⟨hi.1,by have:=hi.2.2.1;omega⟩;clear j h0 m hw
 go_enter func327,ntmps327
 go_wp2_with (go_at_call 349;refine(hc _ H.o).mono ?_;rintro e K ⟨⟨i,rfl,hi⟩,ha⟩;have M:=(FB.lq H.o ha).1.2.1;obtain⟨g0,N⟩:=Q.o i hi;have G:=Za (X.o i hi);have y:=Za (Zc y.o ha);clear ha hi);go_ret;exact⟨by rw[<-G.o];rfl,y.o⟩
end Go.Proofs.YtnepnnkdgejheaaGreatDoor
