import Derived.Shelf.Abstract
import Derived.Test.YtnepnnkdgejheaaGreatDoorKp06
import Derived.Test.YtnepnnkdgejheaaGreatDoorKp14
set_option maxRecDepth 100000
set_option maxHeartbeats 20000000
namespace Go.Proofs.YtnepnnkdgejheaaGreatDoor
open Go.RowKit Plain Tryz
variable {B V cm cn k m n t:Nat}{a0 a1 a10 a11 a14 a2 a3 a4 a5 a6 a7 a8 a9 s:Int}{e:Nat->Int}{u u' w:V6}{x:Value}
def AA(e:Nat->Int):Nat->Int
 |0=>0
 |n+1=>if AA e n=0 then e n else AA e n
theorem Mh:∀{n:Nat},(∀j,j<n->e j=0)->AA e n=0
 |0,_=>rfl
 |n+1,h=>by
  have:=Mh (n:=n) (fun j y=>h j (by omega))
  simp[AA,this,h n (by omega)]
theorem Jaj(h:∀j,j<k->e j=0)(hk:e k≠0):∀{n:Nat},k<n->AA e n=e k
 |0,hn=>by omega
 |n+1,hn=>by
  rcases Nat.lt_or_ge k n with y|y
  . have:=Jaj h hk y;simp only[AA,this,if_neg hk]
  . obtain rfl:k=n:=by omega
    simp only[AA,Mh h,if_true]
theorem DH:∀{n:Nat},AA e n=0->∀j,j<n->e j=0
 |0,_,j,hj=>by omega
 |n+1,h,j,hj=>by
  have h0:AA e n=0:=by
   unfold AA at h
   split at h
   . assumption
   . exact h
  rcases Nat.lt_or_ge j n with y|y
  . exact DH h0 j y
  . obtain rfl:j=n:=by omega
    simpa[AA,h0] using h
def LH(w:V6)(a:V8)(n:Nat)(g:Nat->Nat)(h:Nat->Array Value):Prop:=n=0\/∃b off,a=some (Ad b off)/\∀k,k<n->Kc w b (off+k) (.func (.func (g k)) #[] (h k))
theorem LH.lq{w':V6}{a:V8}{g:Nat->Nat}{cb:Nat->Array Value}(h:LH w a n g cb)(y:Bw w w'):LH w' a n g cb:=by
 rcases h with h|⟨b,off,h,hc⟩
 . exact .inl h
 . exact .inr ⟨b,off,h,fun k hk=>cell_later y (hc k hk)⟩
theorem LH.at{a:V8}{g:Nat->Nat}{cb:Nat->Array Value}(h:LH w a n g cb)(hk:k<n):∃b off,a=some (Ad b off)/\Kc w b (off+k) (.func (.func (g k)) #[] (cb k)):=by
 rcases h with rfl|⟨b,off,y,hc⟩
 . omega
 . exact⟨b,off,y,hc k hk⟩
theorem Jf1(h:Bw w u)(y:w.heap.size<=t)(j m e H:Obj)(v:Value):Bw w (((((u.alloc j).alloc m).alloc e).alloc H).setCell (Ad t 0) v):=
 ((((h.alloc h.size _).alloc (by have:=h.size;simp;omega) _).alloc (by have:=h.size;simp;omega) _).alloc (by have:=h.size;simp;omega) _).setCell y _
theorem Jk5(h:Kc u t 0 x)(y j m e:Obj)(v:Value):(((((u.alloc y).alloc j).alloc m).alloc e).setCell (Ad t 0) v).cell? (Ad t 0)=some v:=by
 have h1:=cell_later (Zb _ e) (cell_later (Zb _ m) (cell_later (Zb _ j) (cell_later (Zb u y) h)));exact World.cell?_setCell_same' _ _ _ (by rw[h1];rfl)
theorem Jf2(e:Int)(y:V6)(B:Nat)(w:V6)(j:GV w)(hx:w.cell? (Ad B 0)=some (Vi 0)/\w.frozen? (Ad B 0)=false)(m:Bw y w)(H:y.heap.size<=B):
 Va 65 #[.iface 22 (Vi e),.iface 143 (Ve B 0)] w fun Z w'=>Z=.returned (.bool true)/\w'.cell? (Ad B 0)=some (Vi e)/\Bw y w':=
 (Jop e ⟨B,0,none⟩ (Vi 0) w j hx.1 hx.2).mono fun _ _ h=>⟨h.1,by rw[h.2];exact Jk5 hx.1 _ _ _ _ _,by rw[h.2];exact Jf1 m H _ _ _ _ _⟩
theorem Ziz(a:V8)(n cap:Nat)(g:Nat->Nat)(G:Nat->Array Value)(e:Nat->Int)(hn:n<=1000)(w:V6)(hc:LH w a n g G)(J:GV w)(K:∀k,k<n->∀args w,(callFunc (g k) args).run prog w=.ok (.enter (g k) args) w)(ha:∀k,k<n->(∀j,j<k->e j=0)->∀u,Bw w u->Va (g k) (G k) u fun r C=>r=.returned (A8 (e k))/\Bw u C):
 Va 103 #[.slice a n cap] w fun r w'=>r=.returned (A8 (AA e n))/\Bw w w':=by
 have E:=Za hc;have F:=Za J;have I:=Za ha;have L:=Za K;clear hc J ha K
 go_enter func103,ntmps103
 go_wp2
 go_loopw [8] (fun i wr=>∃k:Nat,k<=n/\i=Vi k/\Hd (∀j,j<k->e j=0)/\Bw w wr) (fun i _=>n-(intOf i).toNat)
 case atStart=>exact⟨0,Nat.zero_le _,rfl,Za (fun j M=>absurd M (by omega)),Below.refl _ _⟩
 case round=>
  obtain⟨k,hk,rfl,y,m⟩:=hrel;have N:=Za m
  by_cases hlt:k<n
  . obtain⟨b,off,rfl,hi⟩:=(E.o.lq m).at hlt;have hm:=L.o k hlt;have R:=Zc m (Zb wr (.cells #[Vi 0] 22));have H:=I.o k hlt y.o _ R;have T:=Za (fun h=>(fun j M=>by rcases Nat.lt_or_ge j k with P|P;exact y.o j P;rw[show j=k by omega];exact h:∀j,j<k+1->e j=0));have Z:=Za (fun h=>Jaj y.o h hlt);have D:=Za R;have Y:Hd ((wr.alloc (.cells #[Vi 0] 22)).cell? (Ad wr.heap.size 0)=some (Vi 0)/\(wr.alloc (.cells #[Vi 0] 22)).frozen? (Ad wr.heap.size 0)=false/\wr.heap.size<(wr.alloc (.cells #[Vi 0] 22)).heap.size):=Za ⟨by simp[go_sem],by simp[go_sem],by simp⟩;clear m R y;generalize g k=gk at *;generalize G k=ck at*
    by_cases hz:e k=0
    . rw[hz,Z0] at H;have O:=Za (T.o hz);clear hz T Z Y
      go_wp2_with (first
       |(go_at_fn gk;refine H.mono ?_;rintro r X ⟨rfl,hd⟩;have Q:=Za (Zc D.o hd);clear hd)
       |(go_at_call 65;refine(Jfw _ _).mono ?_;rintro r U ⟨rfl,rfl⟩))
      go_roundw
      case rel=>exact⟨k+1,by omega,by go_num,O,Q.o⟩
      case measure=>simp[intOf];omega
    . rw[Zv hz] at H;have A:Hd (A8 (AA e n)=.iface 22 (Vi (e k))):=Za (by rw[Z.o hz,Zv hz]);have B:=Za N.o.size;clear hz T Z;generalize e k=ek at*
      go_wp2_with (first
       |(go_at_fn gk;refine H.mono ?_;rintro r X ⟨rfl,hd⟩;have Q:=Za (Zc D.o hd);have W:=Za (F.o.lq Q.o);have Hj:Hd (V0 X wr 0 0/\X.frozen? (Ad wr.heap.size 0)=false):=Za ⟨cell_later hd Y.o.1,(hd.frozen (p:=⟨wr.heap.size,0,none⟩) Y.o.2.2).trans Y.o.2.1⟩;clear hd H)
       |(go_at_call 65;refine(Jf2 ek w wr.heap.size X W.o Hj.o Q.o B.o).mono ?_;rintro r U ⟨rfl,ho,hl⟩;have Hk:=Za hl;clear hl))
      go_ret;exact⟨by rw[A.o];rfl,Hk.o⟩
  . obtain rfl:k=n:=by omega
    have Z:=Za (Mh y.o);clear m;go_wp2;go_ret;exact⟨by rw[Z.o,Z0];rfl,N.o⟩
theorem DN{t:Int}(h:2<=s)(y:s<=4)(j:1<=t)(m:t<=1000):1<=(s-1)*t/\(s-1)*t<=3000:=by
 rcases(show s=2\/s=3\/s=4 by omega) with rfl|rfl|rfl<;>omega
theorem M7(j e H Z Y X Q G h y ha R hc:Int)(p q:V8)(n m cn cm:Nat)(w:V6):
 Va 147 #[.agg (Qai j e H Z Y X Q G h y ha R hc p q n cn m cm)] w (Rt w (.agg #[Vi h,Vi y])):=by
 go_enter func147,ntmps147
 go_wp2;exact bodyPost_ret (v:=.agg #[Vi h,Vi y]) (by simp[results,results147,go_sem]) rfl ⟨rfl,Zc Vc Vc⟩
theorem Zek(j e H Z Y X Q G h y ha R hc:Int)(p q:V8)(n m cn cm:Nat)(w:V6):
 Va 77 #[.agg (Qai j e H Z Y X Q G h y ha R hc p q n cn m cm)] w (Rt w (.agg #[Vi h,Vi y])):=by
 go_enter func77,ntmps77
 go_wp2;exact bodyPost_ret (v:=.agg #[Vi h,Vi y]) (by simp[results,results77,go_sem]) rfl ⟨rfl,Zc Vc Vc⟩
theorem Mj(e H Z Y X h y j Q G ha R hc:Int)(p q:V8)(n m cn cm:Nat)(w:V6):
 Va 150 #[.agg (Qai e H Z Y X h y j Q G ha R hc p q n cn m cm)] w (Rt w (.agg #[Vi h,Vi y,Vi j,Vi ha])):=by
 go_enter func150,ntmps150
 go_wp2;exact bodyPost_ret (v:=.agg #[Vi h,Vi y,Vi j,Vi ha]) (by simp[results,results150,go_sem]) rfl ⟨rfl,Zc Vc Vc⟩
theorem M8(e H Z Y X h y j Q G ha R hc:Int)(p q:V8)(n m cn cm:Nat)(w:V6):
 Va 80 #[.agg (Qai e H Z Y X h y j Q G ha R hc p q n cn m cm)] w (Rt w (.agg #[Vi h,Vi y,Vi j,Vi ha])):=by
 go_enter func80,ntmps80
 go_wp2;exact bodyPost_ret (v:=.agg #[Vi h,Vi y,Vi j,Vi ha]) (by simp[results,results80,go_sem]) rfl ⟨rfl,Zc Vc Vc⟩
theorem Mk(Z Y X e h y j H R T ha J hc:Int)(p q:V8)(n m cn cm:Nat)(h4:2<=h/\h<=4)(h5:1<=y/\y<=1000)(h3:0<=e/\e<=1000)(h7:0<=H/\H<=1000)(h6:1<=j/\j<=1000)(w:V6):
 Va 153 #[.agg (Qai Z Y X e h y j H R T ha J hc p q n cn m cm)] w (Rt w (.agg #[Vi Z,Vi Y,Vi X,Vi (e+H),Vi ((h-1)*y),Vi ((h-1)*j)])):=by
 obtain⟨Q,G⟩:=h4;obtain⟨b50,b51⟩:=DN Q G h5.1 h5.2;have K:=Wr ((h-1)*y)
 have v5':IntKind.i64.wrap (y*(h-1))=(h-1)*y:=by rw[Int.mul_comm];exact K
 obtain⟨b60,b61⟩:=DN Q G h6.1 h6.2;obtain⟨N,P⟩:=h3;obtain⟨D,C⟩:=h7;have M:=Wr ((h-1)*j)
 have v6':IntKind.i64.wrap (j*(h-1))=(h-1)*j:=by rw[Int.mul_comm];exact M
 go_enter func153,ntmps153
 go_wp2;exact bodyPost_ret (v:=.agg #[Vi Z,Vi Y,Vi X,Vi (e+H),Vi ((h-1)*y),Vi ((h-1)*j)]) (by simp[results,results153,go_sem]) rfl ⟨rfl,Zc Vc Vc⟩
theorem Zeb(Z Y X e h y j H R T ha J hc:Int)(p q:V8)(n m cn cm:Nat)(h4:2<=h/\h<=4)(h5:1<=y/\y<=1000)(h3:0<=e/\e<=1000)(h7:0<=H/\H<=1000)(h6:1<=j/\j<=1000)(w:V6):
 Va 127 #[.agg (Qai Z Y X e h y j H R T ha J hc p q n cn m cm)] w (Rt w (.agg #[Vi Z,Vi Y,Vi X,Vi (e+H),Vi ((h-1)*y),Vi ((h-1)*j)])):=by
 obtain⟨Q,G⟩:=h4;obtain⟨b50,b51⟩:=DN Q G h5.1 h5.2;have K:=Wr ((h-1)*y)
 have v5':IntKind.i64.wrap (y*(h-1))=(h-1)*y:=by rw[Int.mul_comm];exact K
 obtain⟨b60,b61⟩:=DN Q G h6.1 h6.2;obtain⟨N,P⟩:=h3;obtain⟨D,C⟩:=h7;have M:=Wr ((h-1)*j)
 have v6':IntKind.i64.wrap (j*(h-1))=(h-1)*j:=by rw[Int.mul_comm];exact M
 go_enter func127,ntmps127
 go_wp2;exact bodyPost_ret (v:=.agg #[Vi Z,Vi Y,Vi X,Vi (e+H),Vi ((h-1)*y),Vi ((h-1)*j)]) (by simp[results,results127,go_sem]) rfl ⟨rfl,Zc Vc Vc⟩
theorem Zel(j e Z Y h y X Q G R hc ha H:Int)(p q:V8)(n m cn cm:Nat)(h4:2<=h/\h<=4)(h5:1<=y/\y<=1000)(w:V6):
 Va 129 #[.agg (Qai j e Z Y h y X Q G R hc ha H p q n cn m cm)] w (Rt w (.agg #[Vi j,Vi e,Vi ha,Vi H,Vi ((h-1)*y),.slice p n cn,.slice q m cm])):=by
 obtain⟨T,J⟩:=h4;obtain⟨b50,b51⟩:=DN T J h5.1 h5.2;have K:=Wr ((h-1)*y)
 have v5':IntKind.i64.wrap (y*(h-1))=(h-1)*y:=by rw[Int.mul_comm];exact K
 go_enter func129,ntmps129
 go_wp2;exact bodyPost_ret (v:=.agg #[Vi j,Vi e,Vi ha,Vi H,Vi ((h-1)*y),.slice p n cn,.slice q m cm]) (by simp[results,results129,go_sem]) rfl ⟨rfl,Zc Vc Vc⟩
def Jal(w u:V6):Prop:=((V3 u w 0 0/\u.frozen? (Ad (w.heap.size+1) 0)=false)/\(V3 u w 1 0/\u.frozen? (Ad (w.heap.size+1) 1)=false)/\(V3 u w 2 0/\u.frozen? (Ad (w.heap.size+1) 2)=false)/\(V3 u w 3 0/\u.frozen? (Ad (w.heap.size+1) 3)=false)/\(V3 u w 4 0/\u.frozen? (Ad (w.heap.size+1) 4)=false)/\(Kc u (w.heap.size+1) 5 (.slice none 0 0)/\u.frozen? (Ad (w.heap.size+1) 5)=false)/\(Kc u (w.heap.size+1) 6 (.slice none 0 0)/\u.frozen? (Ad (w.heap.size+1) 6)=false))/\w.heap.size+1<u.heap.size
theorem Jal.lq(h:Jal w u)(y:Bw u u'):Jal w u':=by
 obtain⟨⟨⟨m,e⟩,⟨H,Z⟩,⟨Y,X⟩,⟨Q,G⟩,⟨R,T⟩,⟨J,K⟩,M,N⟩,hl⟩:=h;have f:∀j,u'.frozen? (Ad (w.heap.size+1) j)=u.frozen? (Ad (w.heap.size+1) j):=fun j=>y.frozen (p:=⟨w.heap.size+1,j,none⟩) hl;exact⟨⟨⟨cell_later y m,(f 0).trans e⟩,⟨cell_later y H,(f 1).trans Z⟩,⟨cell_later y Y,(f 2).trans X⟩,⟨cell_later y Q,(f 3).trans G⟩,⟨cell_later y R,(f 4).trans T⟩,⟨cell_later y J,(f 5).trans K⟩,cell_later y M,(f 6).trans N⟩,Nat.lt_of_lt_of_le hl y.size⟩
def AxB(u:V6)(B:Nat)(h y j e w H Z Y X Q ha G hc:Int)(p q:V8)(n m cn cm:Nat):Prop:=(V2 u B 0 h/\V2 u B 1 y/\V2 u B 2 j/\V2 u B 3 e/\V2 u B 4 w/\V2 u B 5 H/\V2 u B 6 Z/\V2 u B 7 Y/\V2 u B 8 X/\V2 u B 9 Q/\V2 u B 10 ha/\V2 u B 11 G/\Kc u B 12 (.slice p n cn)/\Kc u B 13 (.slice q m cm)/\V2 u B 14 hc)
theorem AxB.lq{p q:V8}(h:AxB u B a0 a1 a2 a3 a4 a5 a6 a7 a8 a9 a10 a11 a14 p q n m cn cm)(y:Bw u u'):AxB u' B a0 a1 a2 a3 a4 a5 a6 a7 a8 a9 a10 a11 a14 p q n m cn cm:=by
 obtain⟨c0,c1,c2,c3,c4,j,e,w,H,Z,c10,c11,c12,c13,c14⟩:=h;exact⟨cell_later y c0,cell_later y c1,cell_later y c2,cell_later y c3,cell_later y c4,cell_later y j,cell_later y e,cell_later y w,cell_later y H,cell_later y Z,cell_later y c10,cell_later y c11,cell_later y c12,cell_later y c13,cell_later y c14⟩
theorem AxB.new(w:V6)(h y j e H Z Y X Q G ha R hc:Int)(p q:V8)(n m cn cm:Nat):AxB (w.alloc (.cells (Qai h y j e H Z Y X Q G ha R hc p q n cn m cm) 38)) w.heap.size h y j e H Z Y X Q G ha R hc p q n m cn cm:=by
 refine⟨?_,?_,?_,?_,?_,?_,?_,?_,?_,?_,?_,?_,?_,?_,?_⟩<;>simp[go_sem]
theorem Uu{j:Nat}{p q:V8}(w:B≠V)(h:AxB u B a0 a1 a2 a3 a4 a5 a6 a7 a8 a9 a10 a11 a14 p q n m cn cm):AxB (u.setCell (Ad V j) x) B a0 a1 a2 a3 a4 a5 a6 a7 a8 a9 a10 a11 a14 p q n m cn cm:=by
 have f:∀i y,Kc u B i y->(u.setCell (Ad V j) x).cell? (Ad B i)=some y:=fun i y hy=>(World.cell?_setCell_other _ _ _ _ (fun e=>w (congrArg Addr.block e).symm)).trans hy;obtain⟨c0,c1,c2,c3,c4,H,Z,Y,X,Q,c10,c11,c12,c13,c14⟩:=h;exact⟨f _ _ c0,f _ _ c1,f _ _ c2,f _ _ c3,f _ _ c4,f _ _ H,f _ _ Z,f _ _ Y,f _ _ X,f _ _ Q,f _ _ c10,f _ _ c11,f _ _ c12,f _ _ c13,f _ _ c14⟩
theorem Jgf{x0 x1 x2 x3 x4 x5 x6:Value}{p q:V8}(y:B≠V)(h:(V2 u B 0 a0/\V2 u B 1 a1/\V2 u B 2 a2/\V2 u B 3 a3/\V2 u B 4 a4/\V2 u B 5 a5/\V2 u B 6 a6/\V2 u B 7 a7/\V2 u B 8 a8/\V2 u B 9 a9/\V2 u B 10 a10/\V2 u B 11 a11/\Kc u B 12 (.slice p n cn)/\Kc u B 13 (.slice q m cm)/\V2 u B 14 a14)):((((((((u.setCell (Ad V 0) x0).setCell (Ad V 1) x1).setCell (Ad V 2) x2).setCell (Ad V 3) x3).setCell (Ad V 4) x4).setCell (Ad V 5) x5).setCell (Ad V 6) x6).cell? (Ad B 0)=some (Vi a0)/\(((((((u.setCell (Ad V 0) x0).setCell (Ad V 1) x1).setCell (Ad V 2) x2).setCell (Ad V 3) x3).setCell (Ad V 4) x4).setCell (Ad V 5) x5).setCell (Ad V 6) x6).cell? (Ad B 1)=some (Vi a1)/\(((((((u.setCell (Ad V 0) x0).setCell (Ad V 1) x1).setCell (Ad V 2) x2).setCell (Ad V 3) x3).setCell (Ad V 4) x4).setCell (Ad V 5) x5).setCell (Ad V 6) x6).cell? (Ad B 2)=some (Vi a2)/\(((((((u.setCell (Ad V 0) x0).setCell (Ad V 1) x1).setCell (Ad V 2) x2).setCell (Ad V 3) x3).setCell (Ad V 4) x4).setCell (Ad V 5) x5).setCell (Ad V 6) x6).cell? (Ad B 3)=some (Vi a3)/\(((((((u.setCell (Ad V 0) x0).setCell (Ad V 1) x1).setCell (Ad V 2) x2).setCell (Ad V 3) x3).setCell (Ad V 4) x4).setCell (Ad V 5) x5).setCell (Ad V 6) x6).cell? (Ad B 4)=some (Vi a4)/\(((((((u.setCell (Ad V 0) x0).setCell (Ad V 1) x1).setCell (Ad V 2) x2).setCell (Ad V 3) x3).setCell (Ad V 4) x4).setCell (Ad V 5) x5).setCell (Ad V 6) x6).cell? (Ad B 5)=some (Vi a5)/\(((((((u.setCell (Ad V 0) x0).setCell (Ad V 1) x1).setCell (Ad V 2) x2).setCell (Ad V 3) x3).setCell (Ad V 4) x4).setCell (Ad V 5) x5).setCell (Ad V 6) x6).cell? (Ad B 6)=some (Vi a6)/\(((((((u.setCell (Ad V 0) x0).setCell (Ad V 1) x1).setCell (Ad V 2) x2).setCell (Ad V 3) x3).setCell (Ad V 4) x4).setCell (Ad V 5) x5).setCell (Ad V 6) x6).cell? (Ad B 7)=some (Vi a7)/\(((((((u.setCell (Ad V 0) x0).setCell (Ad V 1) x1).setCell (Ad V 2) x2).setCell (Ad V 3) x3).setCell (Ad V 4) x4).setCell (Ad V 5) x5).setCell (Ad V 6) x6).cell? (Ad B 8)=some (Vi a8)/\(((((((u.setCell (Ad V 0) x0).setCell (Ad V 1) x1).setCell (Ad V 2) x2).setCell (Ad V 3) x3).setCell (Ad V 4) x4).setCell (Ad V 5) x5).setCell (Ad V 6) x6).cell? (Ad B 9)=some (Vi a9)/\(((((((u.setCell (Ad V 0) x0).setCell (Ad V 1) x1).setCell (Ad V 2) x2).setCell (Ad V 3) x3).setCell (Ad V 4) x4).setCell (Ad V 5) x5).setCell (Ad V 6) x6).cell? (Ad B 10)=some (Vi a10)/\(((((((u.setCell (Ad V 0) x0).setCell (Ad V 1) x1).setCell (Ad V 2) x2).setCell (Ad V 3) x3).setCell (Ad V 4) x4).setCell (Ad V 5) x5).setCell (Ad V 6) x6).cell? (Ad B 11)=some (Vi a11)/\(((((((u.setCell (Ad V 0) x0).setCell (Ad V 1) x1).setCell (Ad V 2) x2).setCell (Ad V 3) x3).setCell (Ad V 4) x4).setCell (Ad V 5) x5).setCell (Ad V 6) x6).cell? (Ad B 12)=some (.slice p n cn)/\(((((((u.setCell (Ad V 0) x0).setCell (Ad V 1) x1).setCell (Ad V 2) x2).setCell (Ad V 3) x3).setCell (Ad V 4) x4).setCell (Ad V 5) x5).setCell (Ad V 6) x6).cell? (Ad B 13)=some (.slice q m cm)/\(((((((u.setCell (Ad V 0) x0).setCell (Ad V 1) x1).setCell (Ad V 2) x2).setCell (Ad V 3) x3).setCell (Ad V 4) x4).setCell (Ad V 5) x5).setCell (Ad V 6) x6).cell? (Ad B 14)=some (Vi a14)):=
 Uu y (Uu y (Uu y (Uu y (Uu y (Uu y (Uu y h))))))
theorem GA(y j m e h H:Value)(w:V6):(Instr.field 220 (.agg #[y,j,m,e,h,H]) 4).run prog w=.ok h w:=by kernel_rfl
theorem M9(e H G Y y j X Q R T hd ha hc:Int)(p q:V8)(n m cn cm:Nat)(h4:2<=y/\y<=4)(h5:1<=j/\j<=1000)(h3:0<=Y/\Y<=1000)(h7:0<=Q/\Q<=1000)(h6:1<=X/\X<=1000)(w:V6):
 Va 156 #[.agg (Qai e H G Y y j X Q R T hd ha hc p q n cn m cm)] w (Rt w (.agg #[Vi e,Vi H,Vi ha,Vi hc,Vi ((y-1)*j),.slice p n cn,.slice q m cm])):=by
 have N:=fun u=>Mk e H G Y y j X Q R T hd ha hc p q n m cn cm h4 h5 h3 h7 h6 u;have L:=GA;have K:=Za ((AxB.new w e H G Y y j X Q R T hd ha hc p q n m cn cm).lq (Zb _ (.cells Qbr 224)));have P:Hd (Jal w ((w.alloc (.cells (Qai e H G Y y j X Q R T hd ha hc p q n cn m cm) 38)).alloc (.cells Qbr 224))):=Za ⟨⟨⟨by simp[go_sem],by simp[go_sem]⟩,⟨by simp[go_sem],by simp[go_sem]⟩,⟨by simp[go_sem],by simp[go_sem]⟩,⟨by simp[go_sem],by simp[go_sem]⟩,⟨by simp[go_sem],by simp[go_sem]⟩,⟨by simp[go_sem],by simp[go_sem]⟩,by simp[go_sem],by simp[go_sem]⟩,by simp[go_sem]⟩;have D:=Za (Zc (Zb w (.cells (Qai e H G Y y j X Q R T hd ha hc p q n cn m cm) 38)) (Zb _ (.cells Qbr 224)))
 go_enter func156,ntmps156
 go_upto_region 1 with fail;generalize ((w.alloc (.cells (Qai e H G Y y j X Q R T hd ha hc p q n cn m cm) 38)).alloc (.cells Qbr 224))=w1 at *;have Z:Hd ((V0 w1 w 0 e/\V0 w1 w 1 H/\V0 w1 w 2 G/\V0 w1 w 3 Y/\V0 w1 w 4 y/\V0 w1 w 5 j/\V0 w1 w 6 X/\V0 w1 w 7 Q/\V0 w1 w 8 R/\V0 w1 w 9 T/\V0 w1 w 10 hd/\V0 w1 w 11 ha/\V1 w1 w 12 (.slice p n cn)/\V1 w1 w 13 (.slice q m cm)/\V0 w1 w 14 hc)):=K;have C:Hd ((w1.drew.cell? (Ad w.heap.size 0)=some (Vi e)/\w1.drew.cell? (Ad w.heap.size 1)=some (Vi H)/\w1.drew.cell? (Ad w.heap.size 2)=some (Vi G)/\w1.drew.cell? (Ad w.heap.size 3)=some (Vi Y)/\w1.drew.cell? (Ad w.heap.size 4)=some (Vi y)/\w1.drew.cell? (Ad w.heap.size 5)=some (Vi j)/\w1.drew.cell? (Ad w.heap.size 6)=some (Vi X)/\w1.drew.cell? (Ad w.heap.size 7)=some (Vi Q)/\w1.drew.cell? (Ad w.heap.size 8)=some (Vi R)/\w1.drew.cell? (Ad w.heap.size 9)=some (Vi T)/\w1.drew.cell? (Ad w.heap.size 10)=some (Vi hd)/\w1.drew.cell? (Ad w.heap.size 11)=some (Vi ha)/\w1.drew.cell? (Ad w.heap.size 12)=some (.slice p n cn)/\w1.drew.cell? (Ad w.heap.size 13)=some (.slice q m cm)/\w1.drew.cell? (Ad w.heap.size 14)=some (Vi hc))):=Za (K.o.lq Vb);have E:Hd (w.heap.size≠w.heap.size+1):=Za (by omega);obtain⟨c0,c1,c2,c3,c4,O,U,A,B,W,c10,c11,c12,c13,c14⟩:=Z.o
 go_region_held3 (fun u=>(V0 u w 0 e/\V0 u w 1 H/\V0 u w 2 G/\V0 u w 3 Y/\V0 u w 4 y/\V0 u w 5 j/\V0 u w 6 X/\V0 u w 7 Q/\V0 u w 8 R/\V0 u w 9 T/\V0 u w 10 hd/\V0 u w 11 ha/\V1 u w 12 (.slice p n cn)/\V1 u w 13 (.slice q m cm)/\V0 u w 14 hc))
  (first
   |(with_reducible assumption)
   |(with_reducible exact C.o)
   |(with_reducible exact M.o)
   |(with_reducible exact Jgf E.o M.o))
  (first
   |(go_at_call 153;refine Sb (N _) fun h J=>?_;have J:=Zc (Below.refl _ w1).drew J;have M:Hd ((V0 h w 0 e/\V0 h w 1 H/\V0 h w 2 G/\V0 h w 3 Y/\V0 h w 4 y/\V0 h w 5 j/\V0 h w 6 X/\V0 h w 7 Q/\V0 h w 8 R/\V0 h w 9 T/\V0 h w 10 hd/\V0 h w 11 ha/\V1 h w 12 (.slice p n cn)/\V1 h w 13 (.slice q m cm)/\V0 h w 14 hc)):=Za (K.o.lq J);have F:=Za (P.o.lq J);have I:=Za (Zc D.o J);obtain⟨⟨⟨t0,u0⟩,⟨t1,u1⟩,⟨t2,u2⟩,⟨t3,u3⟩,⟨t4,u4⟩,⟨t5,u5⟩,t6,u6⟩,_⟩:=F.o;clear J))
 all_goals
  go_wp2_with fail;refine bodyPost_ret (v:=.agg #[Vi e,Vi H,Vi ha,Vi hc,Vi ((y-1)*j),.slice p n cn,.slice q m cm]) (by simp[results,results156,go_sem, *]) rfl ⟨rfl,?_⟩;exact((((((I.o.setCell (by simp) _).setCell (by simp) _).setCell (by simp) _).setCell (by simp) _).setCell (by simp) _).setCell (by simp) _).setCell (by simp) _
def rgE(s p:Int):Int:=if A1 s 2 4&&A1 p 0 1000 then 0 else 1
theorem Uv{p:Int}(h:rgE s p=0):(2<=s/\s<=4)/\0<=p/\p<=1000:=by
 unfold rgE at h
 split at h
 . rename_i h'
   simp only[Bool.and_eq_true] at h';exact⟨Zw h'.1,Zw h'.2⟩
 . omega
def fmE(l n lo hi:Int):Int:=if l<2*n\/0<lo\/hi<0 then 3 else 0
theorem JK(H Z Y h y X Q G R T ha J hc:Int)(p q:V8)(n m cn cm:Nat)(w:V6):Va 145 #[.agg (Qai H Z Y h y X Q G R T ha J hc p q n cn m cm)] w (Rt w (A8 (rgE y h))):=by
 have j:=Ys y 2 4;have e:=Ys h 0 1000
 unfold rgE
 generalize A1 y 2 4=x1 at *;generalize A1 h 0 1000=x2 at*
 cases x1
 . go_enter func145,ntmps145
   go_wp2_with (first|(go_at_call_of 55 y;refine Sm (j _) ?_)|(go_at_call_of 55 h;refine Sm (e _) ?_));go_ret;exact⟨rfl,by repeat (first|exact Zb _ _|refine Zc ?_ Vc)⟩
 . cases x2
   . go_enter func145,ntmps145
     go_wp2_with (first|(go_at_call_of 55 y;refine Sm (j _) ?_)|(go_at_call_of 55 h;refine Sm (e _) ?_));go_ret;exact⟨rfl,by repeat (first|exact Zb _ _|refine Zc ?_ Vc)⟩
   . go_enter func145,ntmps145
     go_wp2_with (first|(go_at_call_of 55 y;refine Sm (j _) ?_)|(go_at_call_of 55 h;refine Sm (e _) ?_));go_ret;exact⟨rfl,by repeat (first|exact Zb _ _|refine Zc ?_ Vc)⟩
theorem LK(y j h H Z Y X Q e G ha R hc:Int)(p q:V8)(n m cn cm:Nat)(hn:0<=h/\h<=1000)(w:V6):Va 158 #[.agg (Qai y j h H Z Y X Q e G ha R hc p q n cn m cm)] w (Rt w (A8 (fmE e h y j))):=by
 obtain⟨n0,n1⟩:=hn
 unfold fmE
 by_cases h1:e<2*h
 . rw[if_pos (.inl h1),Zv (by decide)]
   go_enter func158,ntmps158
   go_wp2;go_ret;exact⟨rfl,Zb _ _⟩
 . by_cases h2:0<y
   . rw[if_pos (.inr (.inl h2)),Zv (by decide)]
     go_enter func158,ntmps158
     go_wp2;go_ret;exact⟨rfl,Zb _ _⟩
   . by_cases h3:j<0
     . rw[if_pos (.inr (.inr h3)),Zv (by decide)]
       go_enter func158,ntmps158
       go_wp2;go_ret;exact⟨rfl,Zb _ _⟩
     . rw[if_neg (by omega),Z0]
       go_enter func158,ntmps158
       go_wp2;go_ret;exact⟨rfl,Zb _ _⟩
theorem SE(e w H y j Z Y X Q G ha R hc:Int)(p q:V8)(n m cn cm:Nat)(B:Nat)(u:V6)(h:AxB u B e w H y j Z Y X Q G ha R hc p q n m cn cm):
 Va 144 #[Ve B 0] u (Rt u (A8 (rgE j y))):=by
 obtain⟨c0,c1,c2,c3,c4,T,J,K,M,N,c10,c11,c12,c13,c14⟩:=h
 go_enter func144,ntmps144
 go_wp2_with (first
  |(go_at_call 145;refine Sb (JK e w H y j Z Y X Q G ha R hc p q n m cn cm _) fun P hd=>?_))
 go_ret;exact⟨rfl,hd⟩
theorem SF(e w H Z Y X Q G y j ha R hc:Int)(p q:V8)(n m cn cm:Nat)(B:Nat)(u:V6)(h:AxB u B e w H Z Y X Q G y j ha R hc p q n m cn cm):
 Va 146 #[Ve B 0] u (Rt u (A8 (Ya y j))):=by
 obtain⟨c0,c1,c2,c3,c4,J,K,M,N,P,c10,c11,c12,c13,c14⟩:=h
 go_enter func146,ntmps146
 go_wp2_with (first
  |(go_at_call 147;refine Sb (M7 e w H Z Y X Q G y j ha R hc p q n m cn cm _) fun D hd=>?_)
  |(go_at_call 101;refine Sb (M4 y j _) fun C T=>?_))
 go_ret;exact⟨rfl,Zc hd T⟩
theorem SG(w H Z Y X y j e Q G ha R hc:Int)(p q:V8)(n m cn cm:Nat)(B:Nat)(u:V6)(h:AxB u B w H Z Y X y j e Q G ha R hc p q n m cn cm):
 Va 148 #[Ve B 0] u (Rt u (A8 (arE y j e ha))):=by
 obtain⟨c0,c1,c2,c3,c4,J,K,M,N,P,c10,c11,c12,c13,c14⟩:=h
 go_enter func148,ntmps148
 go_wp2_with (first
  |(go_at_call 150;refine Sb (Mj w H Z Y X y j e Q G ha R hc p q n m cn cm _) fun D hd=>?_)
  |(go_at_call 149;refine Sb (M3 y j e ha _) fun C T=>?_))
 go_ret;exact⟨rfl,Zc hd T⟩
theorem SH(Z Y X j y e w H Q G ha R hc:Int)(p q:V8)(n m cn cm:Nat)(h4:2<=y/\y<=4)(h5:1<=e/\e<=1000)(h3:0<=j/\j<=1000)(h7:0<=H/\H<=1000)(h6:1<=w/\w<=1000)(B:Nat)(u:V6)(h:AxB u B Z Y X j y e w H Q G ha R hc p q n m cn cm):
 Va 151 #[Ve B 0] u (Rt u (A8 (grE Z Y X (j+H) ((y-1)*e) ((y-1)*w)))):=by
 obtain⟨c0,c1,c2,c3,c4,J,K,M,N,P,c10,c11,c12,c13,c14⟩:=h
 go_enter func151,ntmps151
 go_wp2_with (first
  |(go_at_call 153;refine Sb (Mk Z Y X j y e w H Q G ha R hc p q n m cn cm h4 h5 h3 h7 h6 _) fun D hd=>?_)
  |(go_at_call 152;refine Sb (Ziy Z Y X (j+H) ((y-1)*e) ((y-1)*w) _) fun C T=>?_))
 go_ret;exact⟨rfl,Zc hd T⟩
theorem SI(m e X w y j H Z Q G R Y hc:Int)(p q:V8)(al zl:V9)(cn cm:Nat)(h4:2<=y/\y<=4)(h5:1<=j/\j<=1000)(h3:0<=w/\w<=1000)(h7:0<=Z/\Z<=1000)(h6:1<=H/\H<=1000)(K:al.length<=9223372036854775807)(hn:zl.length<=9223372036854775807)(M:al.length<=cn)(B:Nat)(u:V6)(h:AxB u B m e X w y j H Z Q G R Y hc p q al.length zl.length cn cm)(ha:Lst u p al)(T:Lst u q zl):
 Va 154 #[Ve B 0] u (Rt u (A8 (ruE m e Y hc ((y-1)*j) al zl))):=by
 have J:=Za (And.intro ha T);clear ha T;obtain⟨c0,c1,c2,c3,c4,P,D,C,E,F,c10,c11,c12,c13,c14⟩:=h
 go_enter func154,ntmps154
 go_wp2_with (first
  |(go_at_call 156;refine Sb (M9 m e X w y j H Z Q G R Y hc p q al.length zl.length cn cm h4 h5 h3 h7 h6 _) fun I hd=>?_)
  |(go_at_call 155;refine Sb (Zka m e Y hc ((y-1)*j) p q cn cm al zl K hn M _ (J.o.1.lq hd) (J.o.2.lq hd)) fun L N=>?_))
 go_ret;exact⟨rfl,Zc hd N⟩
theorem SJ(j e y H Z Y X Q w G ha R hc:Int)(p q:V8)(n m cn cm:Nat)(hn:0<=y/\y<=1000)(B:Nat)(u:V6)(h:AxB u B j e y H Z Y X Q w G ha R hc p q n m cn cm):
 Va 157 #[Ve B 0] u (Rt u (A8 (fmE w y j e))):=by
 obtain⟨c0,c1,c2,c3,c4,T,J,K,M,N,c10,c11,c12,c13,c14⟩:=h
 go_enter func157,ntmps157
 go_wp2_with (first
  |(go_at_call 158;refine Sb (LK j e y H Z Y X Q w G ha R hc p q n m cn cm hn _) fun P hd=>?_))
 go_ret;exact⟨rfl,hd⟩
theorem JL(h y j H Z Y X Q G R ha T hc:Int)(p q:V8)(n m cn cm:Nat)(w:V6):Va 99 #[.agg (Qai h y j H Z Y X Q G R ha T hc p q n cn m cm)] w fun e w'=>e=.returned (Vf (w.heap.size+1) 0 6 6)/\w'=(w.alloc (.cells (Qai h y j H Z Y X Q G R ha T hc p q n cn m cm) 38)).alloc (.cells #[.func (.func 144) #[] #[Ve w.heap.size 0],.func (.func 146) #[] #[Ve w.heap.size 0],.func (.func 148) #[] #[Ve w.heap.size 0],.func (.func 151) #[] #[Ve w.heap.size 0],.func (.func 154) #[] #[Ve w.heap.size 0],.func (.func 157) #[] #[Ve w.heap.size 0]] 186):=by
 go_enter func99,ntmps99
 go_wp2;go_ret;exact⟨rfl,rfl⟩
theorem Zjt(h y j m e H Z Y X Q ha G x12 x13 hc x15 x16 x17 x18 x19 x20 x21 x22 x23 x24 x25 x26 x27 x28 x29:Value)(c0 c1:Int)(w:V6):Va 102 #[.agg #[h,y,j,m,e,H,Z,Y,X,Q,ha,G,x12,x13,hc,x15,x16,x17,x18,x19,x20,x21,x22,x23,x24,x25,x26,x27,x28,x29,Vi c0,Vi c1]] w (Rt w (.agg #[Vi c0,Vi c1])):=by
 go_enter func102,ntmps102
 go_wp2;exact bodyPost_ret (v:=.agg #[Vi c0,Vi c1]) (by simp[results,results102,go_sem]) rfl ⟨rfl,Zc Vc Vc⟩
theorem LL{o:Nat}{cs:List Value}(h:u.rangeAt B o cs)(y:Bw u u'):u'.rangeAt B o cs:=fun j v m=>cell_later y (h j v m)
theorem Zr:(prog.info? 41).map (·.size)=some 32:=by kernel_rfl
theorem WO(y j m e w H Z Y X Q ha G x12 x13 hc x15 x16 x17 x18 x19 x20 x21 x22 x23 x24 x25 x26 x27 x28 x29:Value)(c0 c1:Int)(B:Nat)(u:V6)(h:u.rangeAt B 0 [y,j,m,e,w,H,Z,Y,X,Q,ha,G,x12,x13,hc,x15,x16,x17,x18,x19,x20,x21,x22,x23,x24,x25,x26,x27,x28,x29,Vi c0,Vi c1]):Va 100 #[Ve B 0] u (Rt u (A8 (Ya c0 c1))):=by
 have R:=Za h;clear h
 go_enter func100,ntmps100
 go_wp2_with (first
  |(refine Lm 41 (.tmp 0) rfl B 0 [y,j,m,e,w,H,Z,Y,X,Q,ha,G,x12,x13,hc,x15,x16,x17,x18,x19,x20,x21,x22,x23,x24,x25,x26,x27,x28,x29,Vi c0,Vi c1] R.o underlying41 Zr ?_)
  |(go_at_call 102;refine Sb (Zjt y j m e w H Z Y X Q ha G x12 x13 hc x15 x16 x17 x18 x19 x20 x21 x22 x23 x24 x25 x26 x27 x28 x29 c0 c1 _) fun J hd=>?_)
  |(go_at_call 101;refine Sb (M4 c0 c1 _) fun K T=>?_))
 go_ret;exact⟨rfl,Zc hd T⟩
end Go.Proofs.YtnepnnkdgejheaaGreatDoor
namespace Go.Proofs.YtnepnnkdgejheaaGreatDoor
open Go.RowKit Go.Extern.Stop Go.Stop Go.Extern Plain Tryz
theorem Je0(v:Value)(w:V6):(ReflectliteType.typeOf #[.iface 411 v]).run prog w=.ok (.iface 273 (.agg #[Ve 10 411])) w:=by kernel_rfl
theorem Jqk(w:V6):(ReflectliteType.relation "AssignableTo" ReflectliteType.assignableTo #[.agg #[Ve 10 411],.iface 273 (.agg #[Ve 10 22])]).run prog w=.ok (.bool false) w:=by kernel_rfl
theorem Jr8(a:Addr)(w:V6):(Instr.typeAssert (eV a) 27 278 true).run prog w=.ok (.tuple #[.nilIface,.bool false]) w:=run_typeAssert_lacksB underlying278 (by kernel_rfl) (by kernel_rfl) _ _ w
theorem Jr9(a:Addr)(w:V6):(Instr.typeAssert (eV a) 27 281 true).run prog w=.ok (.tuple #[.nilIface,.bool false]) w:=run_typeAssert_lacksB underlying281 (by kernel_rfl) (by kernel_rfl) _ _ w
theorem Jsa(a:Addr)(w:V6):(Instr.typeAssert (eV a) 27 282 true).run prog w=.ok (.tuple #[.nilIface,.bool false]) w:=run_typeAssert_lacksB underlying282 (by kernel_rfl) (by kernel_rfl) _ _ w
theorem Jnb(a t:Addr)(w:V6)(h:GV w):
 Va 65 #[eV a,.iface 143 (.pointer (some t))] w fun y w'=>y=.returned (.bool false)/\Bw w w':=by
 have j:=@run_callFunc_extern prog 116 _ (fun args=>ReflectliteValue.unpack (args.getD 0 (.tuple #[]))) func116 (by kernel_rfl) (by kernel_rfl) (by kernel_rfl) (by kernel_rfl);have m:=@run_callFunc_extern prog 117 _ (ReflectliteValue.methodAny (ReflectliteValue.valueError "reflectlite.Value.Type" 0) (fun t _ _ _=>ReflectliteType.toType t)) func117 (by kernel_rfl) (by kernel_rfl) (by kernel_rfl) (by kernel_rfl);have e:=@run_callFunc_extern prog 118 _ (ReflectliteValue.method (ReflectliteValue.valueError "reflectlite.Value.IsNil" 0) ReflectliteValue.isNil) func118 (by kernel_rfl) (by kernel_rfl) (by kernel_rfl) (by kernel_rfl);have H:=@run_callFunc_extern prog 394 _ (ReflectliteType.abiMethod fun t=>do pure (.int .u8 (<-Rtype.kind t))) func394 (by kernel_rfl) (by kernel_rfl) (by kernel_rfl) (by kernel_rfl);have Z:=@run_callFunc_extern prog 405 _ (ReflectliteType.method ReflectliteType.elem) func405 (by kernel_rfl) (by kernel_rfl) (by kernel_rfl) (by kernel_rfl);have Y:=@run_callFunc_extern prog 406 _ (ReflectliteType.relation "Implements" ReflectliteType.implements_) func406 (by kernel_rfl) (by kernel_rfl) (by kernel_rfl) (by kernel_rfl);have X:=@run_callFunc_extern prog 175 _ ReflectliteType.typeOf func175 (by kernel_rfl) (by kernel_rfl) (by kernel_rfl) (by kernel_rfl);have Q:=@run_callFunc_extern prog 403 _ (ReflectliteType.relation "AssignableTo" ReflectliteType.assignableTo) func403 (by kernel_rfl) (by kernel_rfl) (by kernel_rfl) (by kernel_rfl);have G:=Je0;have a25:=Jqk;have R:=Jr8 a;have T:=Jr9 a;have J:=Jsa a;have K:=Jah;have M:=G4;have N:=RM;have P:=RO;have D:=RR;have C:=RT;have k27:=RP;have k25:=RQ;have e27:=RW;have i25:=RX;have E:=MM ⟨w.heap.size,0,none⟩ t ((w.alloc (.cells #[.pointer (some t)] 143)).alloc (.cells #[Ve 10 143,Ve w.heap.size 0,.int .u64 150] 206)) (by simp);have ha:=h.lt
 have F:((w.alloc (.cells #[.pointer (some t)] 143)).alloc (.cells #[Ve 10 143,Ve w.heap.size 0,.int .u64 150] 206)).cell? (Ad 1 0)=some (.iface 273 (.agg #[Ve 10 27])):=by
  rw[World.cell?_alloc_lt _ _ ⟨1,0,none⟩ (by first|(simp;done)|(simp;omega)),World.cell?_alloc_lt _ _ ⟨1,0,none⟩ ha];exact h
 go_enter func65,ntmps65
 go_wp2;refine wp_loop_rounds 1 ?_;rw[rounds_succ];go_wp2;go_ret;exact⟨rfl,Zc (Zc Vc Vc) Vc⟩
abbrev AN:V7:=⟨#[98,97,100]⟩
theorem Eo(a:Addr)(w:V6)(h:GV w):Va 38 #[eV a] w (Rt w (.string AN)):=by
 have ha:=Zb w (.cells #[Vi 0] 22);have y:=Jnb a ⟨w.heap.size,0,none⟩ _ (h.lq ha)
 go_enter func38,ntmps38
 go_wp2_with (go_at_call 65;refine y.mono ?_;rintro e w' ⟨rfl,j⟩);go_ret;exact⟨rfl,Zc ha j⟩
theorem VJ(e:Int)(h:okI e)(h0:e≠0){K:Nat}{a:Addr}(w:V6)(y:GW K a w):Va 38 #[.iface 22 (Vi e)] w fun r w'=>r=.returned (.string (Yt e))/\Bw w w':=by
 have ha:=Zb w (.cells #[Vi 0] 22);have m:Yt e=erS++itB e:=if_neg h0;rw[m];have hl:=Lib.itoa_length_le e h.1 h.2
 have J:¬9223372036854775807<6+(Lib.itoa e).length:=by omega
 have Y:=Za (fun u (k:Bw w u)=>CW e h u (y.lq k));have Q:=Za (Jf2 e w w.heap.size _ (y.gv.lq ha) ((Blk.new w 22 [Vi 0]).cell (j:=0) rfl) ha (Nat.le_refl _));clear m hl y
 go_enter func38,ntmps38
 go_upto_region 2 with fail;generalize w.alloc _=v0 at *;generalize H:w.heap.size=X at *;have G:=Za H;clear H
 go_wp2_with (first
  |(go_at_call 65;refine Q.o.mono ?_;rintro e M ⟨rfl,hc,R⟩;have Z:=Za R)
  |(go_at_call 27;refine Sb (Y.o _ Z.o) fun N T=>?_))
 go_ret;have hd:=Z.o
 try rw[<-G.o] at hd
 exact⟨rfl,Zc hd T⟩
end Go.Proofs.YtnepnnkdgejheaaGreatDoor
