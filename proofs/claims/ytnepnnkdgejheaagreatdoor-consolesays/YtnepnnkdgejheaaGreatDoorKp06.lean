
import Derived.Test.YtnepnnkdgejheaaGreatDoorKp05
set_option maxRecDepth 100000
set_option maxHeartbeats 20000000
namespace Go.Proofs.YtnepnnkdgejheaaGreatDoor
open Go.RowKit Plain Tryz
variable {B H L M U n s:Int}{W u u' w w':V6}{ba bz ca cz k oa oz:Nat}
def Lst(w:V6)(a:V8)(l:V9):Prop:=l=[]\/∃b off,a=some (Ad b off)/\∀k,k<l.length->V2 w b (off+k) (at0 l k)
theorem Lst.lq{a:V8}{l:V9}(h:Lst w a l)(y:Bw w w'):Lst w' a l:=by
 rcases h with h|⟨b,off,h,hc⟩
 . exact .inl h
 . exact .inr ⟨b,off,h,fun k hk=>cell_later y (hc k hk)⟩
theorem Lst.at{a:V8}{l:V9}(h:Lst w a l)(hn:l≠[]):∃b off,a=some (Ad b off)/\∀k,k<l.length->V2 w b (off+k) (at0 l k):=by
 rcases h with h|h
 . exact absurd h hn
 . exact h
theorem Ug{l:V9}(h:k<l.length):l≠[]:=by intro e;subst e;simp at h
theorem MP(a:V8)(cap:Nat)(l:V9)(w:V6)(e:l.length<=9223372036854775807)(hc:Lst w a l):
 Va 231 #[.slice a l.length cap] w (Re w (Vi (Z6 l))):=by
 have m:Hd (Lst w a l):=hc;clear hc
 go_enter func231,ntmps231
 go_wp2
 go_loop [3] (fun i=>∃k:Nat,k<=l.length/\i=Vi k/\Hd (Z6 l=Z6 (l.drop k))) (fun i=>l.length-(intOf i).toNat)
 case atStart=>exact⟨0,Nat.zero_le _,rfl,by show Z6 l=Z6 (l.drop 0);rw[List.drop_zero]⟩
 case round=>
  obtain⟨k,hk,rfl,h⟩:=hrel
  by_cases hlt:k<l.length
  . obtain⟨b,off,rfl,j⟩:=m.o.at (Ug hlt);have ha:=j k hlt;clear j;have hs:=IT l k hlt;generalize at0 l k=z at ha hs
    by_cases hz:Zx z=true
    . rw[if_pos hz] at hs;have y:Hd (Z6 l=Z6 (l.drop (k+1))):=h.o.trans hs;clear hs h
      go_wp2_with (go_at_call 22;refine Sm (Zkj _ _) ?_)
      go_round
      case rel=>exact⟨k+1,by omega,by go_num,y⟩
      case measure=>simp[intOf];omega
    . rw[if_neg hz] at hs;have y:Hd (Z6 l=1):=h.o.trans hs
      have hz':Zx z=false:=by simpa using hz
      clear hs h hz
      go_wp2_with (go_at_call 22;refine Sm (Zkj _ _) ?_);go_ret;exact⟨by rw[y.o];rfl,rfl⟩
  . go_wp2;go_ret
    have:k=l.length:=by omega
    subst this;exact⟨by rw[h.o,List.drop_length];rfl,rfl⟩
def Xt(l:V9):Nat->Int
 |0=>-1
 |n+1=>if Zx (at0 l (l.length-(n+1))) then Xt l n else((l.length-(n+1):Nat):Int)
theorem JH(l:V9):∀n,n<=l.length->(0<=Xt l n↔Z6 (l.drop (l.length-n))=1)
 |0,_=>by simp[Xt,Z6]
 |n+1,h=>by
  have hs:=IT l (l.length-(n+1)) (by omega)
  have e:l.length-(n+1)+1=l.length-n:=by omega
  rw[e] at hs;rw[hs];simp only[Xt]
  split
  . rw[JH l n (by omega)]
  . simp
theorem Jdc(a:V8)(cap:Nat)(l:V9)(w:V6)(Z:l.length<=9223372036854775807)(hc:Lst w a l):
 Va 305 #[.slice a l.length cap,.func (.func 276) #[] #[]] w (Re w (Vi (Xt l l.length))):=by
 have m:Hd (Lst w a l):=hc;clear hc
 go_enter func305,ntmps305
 go_wp2
 go_loop [8] (fun i=>∃k:Nat,k<=l.length/\i=Vi k/\Hd (Xt l l.length=Xt l (l.length-k))) (fun i=>l.length-(intOf i).toNat)
 case atStart=>exact⟨0,Nat.zero_le _,rfl,rfl⟩
 case round=>
  obtain⟨k,hk,rfl,h⟩:=hrel
  by_cases hlt:k<l.length
  . obtain⟨b,off,rfl,j⟩:=m.o.at (Ug hlt);have ha:=j k hlt;clear j
    have hs:Xt l (l.length-k)=if Zx (at0 l k) then Xt l (l.length-(k+1)) else(k:Int):=by
     have e:l.length-k=(l.length-(k+1))+1:=by omega
     have H:l.length-(l.length-(k+1)+1)=k:=by omega
     rw[e];simp only[Xt,H]
    generalize at0 l k=z at ha hs
    by_cases hz:Zx z=true
    . rw[if_pos hz] at hs;have y:Hd (Xt l l.length=Xt l (l.length-(k+1))):=h.o.trans hs;clear hs h
      go_wp2_with (go_at_call 276;refine Sm (DB _ _) ?_)
      go_round
      case rel=>exact⟨k+1,by omega,by go_num,y⟩
      case measure=>simp[intOf];omega
    . rw[if_neg hz] at hs;have y:Hd (Xt l l.length=k):=h.o.trans hs
      have hz':Zx z=false:=by simpa using hz
      clear hs h hz
      go_wp2_with (go_at_call 276;refine Sm (DB _ _) ?_);go_ret;exact⟨by rw[y.o];rfl,rfl⟩
  . go_wp2;go_ret
    have:k=l.length:=by omega
    subst this;exact⟨by rw[h.o,Nat.sub_self];rfl,rfl⟩
theorem OI(a:V8)(cap:Nat)(l:V9)(w:V6)(j:l.length<=9223372036854775807)(hc:Lst w a l):
 Va 275 #[.slice a l.length cap,.func (.func 276) #[] #[]] w (Re w (.bool (Z6 l==1))):=by
 have e:=JH l l.length (Nat.le_refl _);rw[Nat.sub_self,List.drop_zero] at e;have hi:=Jdc a cap l w j hc;generalize Xt l l.length=n at e hi
 have y:(Z6 l==1)=decide (0<=n):=by
  by_cases h:0<=n
  . rw[decide_eq_true h];simpa using e.mp h
  . rw[decide_eq_false h];simpa using fun q=>h (e.mpr q)
 rw[y];clear e y hc
 go_enter func275,ntmps275
 go_wp2_with (go_at_call 305;refine hi.mono ?_;rintro e w' ⟨rfl,rfl⟩);go_ret;exact⟨rfl,rfl⟩
theorem Zic(a:V8)(cap:Nat)(l:V9)(w:V6)(y:l.length<=9223372036854775807)(hc:Lst w a l):
 Va 239 #[.slice a l.length cap] w (Re w (A8 (Z6 l))):=by
 have hi:=OI a cap l w y hc;clear hc
 rcases Md l with h|h
 . rw[h] at hi|-
   go_enter func239,ntmps239
   go_wp2_with (go_at_call 275;refine hi.mono ?_;rintro e w' ⟨rfl,rfl⟩);go_ret;exact⟨rfl,rfl⟩
 . rw[h] at hi|-
   go_enter func239,ntmps239
   go_wp2_with (go_at_call 275;refine hi.mono ?_;rintro e w' ⟨rfl,rfl⟩);go_ret;exact⟨rfl,rfl⟩
theorem OJ(l:V9)(b:Bool)(y:b=Yg l (l.length-1)):Zk [if decide ((l.length:Int)<2)=true then 3 else 0,if decide (8<(l.length:Int))=true then 2 else 0,Z6 l,if b=true then 3 else 0]=Yp l:=by
 subst y
 unfold Yp
 by_cases h1:l.length<2
 . rw[if_pos h1,decide_eq_true (show(l.length:Int)<2 by omega)];rfl
 . rw[if_neg h1,decide_eq_false (show ¬(l.length:Int)<2 by omega)]
   by_cases h2:8<l.length
   . rw[if_pos h2,decide_eq_true (show 8<(l.length:Int) by omega)];rfl
   . rw[if_neg h2,decide_eq_false (show ¬8<(l.length:Int) by omega)]
     rcases Md l with h|h
     . rw[h,if_pos rfl];cases Yg l (l.length-1)<;>rfl
     . rw[h];rfl
theorem WK(a:V8)(cap:Nat)(l:V9)(w:V6)(Y:l.length<=9223372036854775807)(hc:Lst w a l):
 Va 230 #[.slice a l.length cap] w fun r w'=>r=.returned (Vi (Yp l))/\Bw w w':=by
 have H:Hd (Lst w a l):=hc;clear hc
 go_enter func230,ntmps230
 go_wp2
 go_loopw [3,4] (fun f i wr=>∃j:Nat,j<=l.length-1/\i=Vi ((j+1:Nat):Int)/\f=.bool (Yg l j)/\Bw w wr) (fun f i _=>l.length-(intOf i).toNat)
 case atStart=>exact⟨0,Nat.zero_le _,rfl,rfl,Below.refl _ _⟩
 case round=>
  obtain⟨j,T,rfl,rfl,h⟩:=hrel
  by_cases hlt:j+1<l.length
  . obtain⟨b,off,rfl,m⟩:=(H.o.lq h).at (Ug hlt);have ha:=m (j+1) hlt;have X:=m j (by omega);clear m;have hs:Yg l (j+1)=(Yg l j||decide (at0 l (j+1)<=at0 l j)):=rfl;generalize at0 l j=y at X hs;generalize at0 l (j+1)=z at ha hs;generalize Yg l j=f at hs|-;have Z:Hd (Yg l (j+1)=(f||decide (z<=y))):=hs;clear hs
    have J:(((j+1:Nat):Int)-1).toNat=j:=by omega
    have K:(((j+1:Nat):Int)).toNat=j+1:=by omega
    have M:(0:Int)<=((j+1:Nat):Int)-1:=by omega
    have N:((j+1:Nat):Int)-1<(l.length:Int):=by omega
    have Q:((j+1:Nat):Int)<(l.length:Int):=by omega
    have P:(0:Int)<=((j+1:Nat):Int):=by omega
    generalize hi:((j+1:Nat):Int)=i at*
    cases f
    . go_wp2;go_quiet (fail);go_wp2;go_roundw
      case rel=>exact⟨j+1,by omega,by subst hi;go_num,by rw[Z.o];simp,below_drewN h _⟩
      case measure=>simp[intOf];omega
    . go_wp2;go_quiet (fail);go_wp2;go_roundw
      case rel=>exact⟨j+1,by omega,by subst hi;go_num,by rw[Z.o];simp,below_drewN h _⟩
      case measure=>simp[intOf];omega
  . have G:j=l.length-1:=by omega
    have hw:=MP a cap l wr Y (H.o.lq h)
    have Q:¬((j+1:Nat):Int)<(l.length:Int):=by omega
    generalize hi:((j+1:Nat):Int)=i at *;generalize R:Yg l j=f;have hd:=OJ l f (by rw[<-R,G])
    go_wp2_with (first
     |(go_at_call 4;refine(IV _ _ _).mono ?_;rintro e w' ⟨x,rfl,hx,rfl⟩)
     |(go_at_call 231;refine hw.mono ?_;rintro e w' ⟨rfl,rfl⟩)
     |(go_at_call 45;refine Sm (VX _ _ _ _ _ _) ?_))
    go_ret
    rename_i x0 h0 x1 h1
    rw[<-hd];refine⟨?_,h.alloc h.size _⟩;rw[<-h0.o,<-h1.o,<-hx.o];rfl
theorem MQ(l:V9):∀n,Yg l n=false↔∀k,k<n->at0 l k<at0 l (k+1)
 |0=>by simp[Yg]
 |n+1=>by
  simp only[Yg,Bool.or_eq_false_iff,decide_eq_false_iff_not,MQ l n]
  constructor
  . rintro⟨h,q⟩ k hk
    by_cases e:k=n
    . subst e;omega
    . exact h k (by omega)
  . intro h;exact⟨fun k hk=>h k (by omega),by have:=h n (by omega);omega⟩
theorem I1(a:V8)(cap:Nat)(l:V9)(w:V6)(Y:l.length<=9223372036854775807)(G:l.length<=cap)(hc:Lst w a l):
 Va 238 #[.slice a l.length cap] w fun r w'=>r=.returned (A8 (Yp l))/\Bw w w':=by
 have hw:=Zic a cap l w Y hc
 by_cases h1:l.length<2
 . have e:Yp l=3:=by unfold Yp;rw[if_pos h1]
   rw[e];clear e
   have h1':(l.length:Int)<2:=by omega
   go_enter func238,ntmps238
   go_wp2_with fail;go_ret;exact⟨rfl,Below.refl _ _⟩
 by_cases h2:8<l.length
 . have e:Yp l=2:=by unfold Yp;rw[if_neg h1,if_pos h2]
   rw[e];clear e
   have h1':¬(l.length:Int)<2:=by omega
   have h2':8<(l.length:Int):=by omega
   go_enter func238,ntmps238
   go_wp2_with fail;go_ret;exact⟨rfl,Below.refl _ _⟩
 have h1':¬(l.length:Int)<2:=by omega
 have h2':¬8<(l.length:Int):=by omega
 rcases Md l with h3|h3
 . have e:Yp l=if Yg l (l.length-1) then 3 else 0:=by unfold Yp;rw[if_neg h1,if_neg h2,if_pos h3]
   have H:Hd (Yp l=if Yg l (l.length-1) then 3 else 0):=e;clear e;rw[h3] at hw;obtain⟨b,off,rfl,hd⟩:=hc.at (Ug (k:=0) (by omega));have Z:Hd (∀k,k<l.length->V2 w b (off+k) (at0 l k)):=hd;clear hc hd h3
   have hw':∀m,m=w->Va 239 #[Vf b off l.length cap] m fun r w'=>r=.returned .nilIface/\w'=m:=by rintro m rfl;exact hw
   clear hw
   go_enter func238,ntmps238
   go_wp2_with (go_at_call 239;refine Sm (hw' _ rfl) ?_)
   go_loop [22] (fun i=>∃k:Nat,k+1<=l.length/\i=Vi k/\Hd (Yg l k=false)) (fun i=>l.length-(intOf i).toNat)
   case atStart=>exact⟨0,by omega,rfl,rfl⟩
   case round=>
    obtain⟨k,hk,rfl,h⟩:=hrel
    by_cases hlt:k+1<l.length
    . have R:=Z.o k (by omega);have ha:=Z.o (k+1) hlt
      have X:off+(k+1)=off+1+k:=by omega
      rw[X] at ha
      by_cases Q:at0 l (k+1)<=at0 l k
      . have j:Hd (Yg l (l.length-1)=true):=by
         show Yg l (l.length-1)=true
         cases e:Yg l (l.length-1)
         . have:=(MQ l _).mp e k (by omega);omega
         . rfl
        clear h;generalize at0 l (k+1)=z at *;generalize at0 l k=y at *;go_wp2_with fail;go_ret;exact⟨by rw[H.o,j.o];rfl,Below.refl _ _⟩
      . have j:Hd (Yg l (k+1)=false):=by
         show Yg l (k+1)=false
         simp only[Yg,Bool.or_eq_false_iff,decide_eq_false_iff_not];exact⟨h.o,Q⟩
        clear h;generalize at0 l (k+1)=z at *;generalize at0 l k=y at *;go_wp2_with fail
        go_round
        case rel=>exact⟨k+1,by omega,by go_num,j⟩
        case measure=>simp[intOf];omega
    . have j:Hd (Yg l (l.length-1)=false):=by
       have:k=l.length-1:=by omega
       subst this;exact h
      clear h;go_wp2_with fail;go_ret;exact⟨by rw[H.o,j.o];rfl,Below.refl _ _⟩
 . have e:Yp l=1:=by unfold Yp;rw[if_neg h1,if_neg h2,h3];rfl
   rw[e];clear e;rw[h3] at hw;have hw':Va 239 #[.slice a l.length cap] w (Re w (.iface 22 (Vi 1))):=hw;clear hw hc h3
   go_enter func238,ntmps238
   go_wp2_with (go_at_call 239;refine hw'.mono ?_;rintro e w' ⟨rfl,rfl⟩);go_ret;exact⟨rfl,Below.refl _ _⟩
theorem Jf7(b off cap:Nat)(l:V9)(w:V6)(h:l.length<=9223372036854775807)(hl:0<l.length)(hc:∀k,k<l.length->V2 w b (off+k) (at0 l k)):
 Va 378 #[Vf b off l.length cap] w fun r w'=>r=.returned (.tuple #[Vi (at0 l 0),Vi (at0 l (l.length-1))])/\∃n,w'=w.drewN n:=by
 have c0:=hc 0 hl;have c1:=hc (l.length-1) (by omega);clear hc;rw[Nat.add_zero] at c0;generalize at0 l 0=y at *;generalize at0 l (l.length-1)=z at*
 have j:((l.length:Int)-1).toNat=l.length-1:=by omega
 go_enter func378,ntmps378
 go_wp2;go_quiet (fail);go_wp2;go_ret2;exact⟨rfl,_,rfl⟩
theorem Jdd(b off cap:Nat)(l:V9)(x:Int)(w:V6)(p:AK l)(hc:∀k,k<l.length->V2 w b (off+k) (at0 l k)):
 Va 372 #[Vf b off l.length cap,Vi x] w fun r w'=>∃i:Nat,r=.returned (.tuple #[Vi i,Vi (Z8 l x-at0 l i),Vi (at0 l (i+1)-Z8 l x)])/\B5 l (Z8 l x) i/\∃n,w'=w.drewN n:=by
 have hl:=p.lo;have N:=p.hi;have Q:Hd (AK l):=p;have G:Hd (∀k,k<l.length->V2 w b (off+k) (at0 l k)):=hc;have H:=Jf7 b off cap l w (by omega) (by omega) hc;have R:=R8 p x;have J:=Xr p.worth 0;have K:=Xr p.worth (l.length-1);have hx:Ze x (at0 l 0) (at0 l (l.length-1))=Z8 l x:=rfl
 have c0:-1000000<=Z8 l x:=by omega
 have c1:Z8 l x<=1000000:=by omega
 have T:Hd (at0 l 0<=Z8 l x/\Z8 l x<=at0 l (l.length-1)):=R;have hk:∀w,Va 264 #[Vi x,Vi (at0 l 0),Vi (at0 l (l.length-1))] w (Re w (Vi (Z8 l x))):=fun w=>Y1 x _ _ w;clear hc R J K hx p;generalize Z8 l x=c at *;generalize hy:at0 l 0=y at H hk;generalize Z:at0 l (l.length-1)=z at H hk
 go_enter func372,ntmps372
 go_wp2_with (first
  |(go_at_call 378;refine H.mono ?_;rintro e w' ⟨rfl,n,rfl⟩)
  |(go_at_call 264;refine Sm (hk _) ?_))
 clear H hk hy Z
 go_loop [4] (fun i=>∃k:Nat,k+1<l.length/\i=Vi k/\Hd (at0 l k<=c)) (fun i=>l.length-(intOf i).toNat)
 case atStart=>exact⟨0,by omega,rfl,T.o.1⟩
 case round=>
  obtain⟨k,hk,rfl,j⟩:=hrel;have ha:=G.o (k+1) hk;have hd:=G.o k (by omega);have q0:=Xr Q.o.worth k;have M:=Xr Q.o.worth (k+1) (hk:=hk)
  have P:((k:Int)+1).toNat=k+1:=by omega
  by_cases hlt:k+2<l.length
  . by_cases Z:at0 l (k+1)<=c
    . clear j q0 M hd;have m:Hd (at0 l (k+1)<=c):=Z;generalize at0 l (k+1)=z at ha Z;go_wp2
      go_round
      case rel=>exact⟨k+1,by omega,by go_num,m⟩
      case measure=>simp[intOf];omega
    . have m:Hd (B5 l c k):=⟨hk,j.o,by omega,fun _=>by omega⟩;clear j;generalize Y:at0 l (k+1)=z at *;generalize X:at0 l k=y at *;go_wp2;go_quiet (fail);go_wp2;refine bodyPost_ret (v:=.tuple #[Vi k,Vi (c-y),Vi (z-c)]) (by simp[results,results372,go_sem]) rfl ⟨k,by rw[Y,X],m,?_⟩;exact⟨_,World.drewN_drewN _ _ _⟩
  . have m:Hd (B5 l c k):=⟨hk,j.o,by have:=T.o.2;rw[show l.length-1=k+1 by omega] at this;exact this,fun h=>absurd h hlt⟩
    have D:¬(k:Int)+2<(l.length:Int):=by omega
    clear j;generalize Y:at0 l (k+1)=z at *;generalize X:at0 l k=y at *;go_wp2;go_quiet (fail);go_wp2;refine bodyPost_ret (v:=.tuple #[Vi k,Vi (c-y),Vi (z-c)]) (by simp[results,results372,go_sem]) rfl ⟨k,by rw[Y,X],m,?_⟩;exact⟨_,World.drewN_drewN _ _ _⟩
theorem Jde(y j Z m H X:Nat)(a z:V9)(x:Int)(w:V6)(p:AK a)(J:Z6 z=0)(K:a.length=z.length)(ha:∀k,k<a.length->V2 w y (j+k) (at0 a k))(hi:∀k,k<z.length->V2 w m (H+k) (at0 z k)):
 Va 358 #[.agg (Qat y j Z m H X a z),Vi x] w fun r w'=>r=.returned (Vi (Y7 a z x))/\Bw w w':=by
 have hd:=p.lo;have D:=p.hi;have h:Hd (AK a/\Z6 z=0/\a.length=z.length):=⟨p,J,K⟩;have M:∀o,Bw w (w.alloc o):=fun o=>(Below.refl _ _).alloc (Nat.le_refl _) o;have N:Hd (∀k,k<z.length->V2 w m (H+k) (at0 z k)):=hi;have hs:∀o,Va 372 #[Vf y j a.length Z,Vi x] (w.alloc o) _:=fun o=>Jdd y j Z a x (w.alloc o) p (fun k hk=>cell_later (M o) (ha k hk));clear ha hi p J K
 go_enter func358,ntmps358
 go_upto_region 2 with(go_at_call 372;refine(hs _).mono ?_;rintro e w' ⟨i,rfl,st,n,rfl⟩);have C:=st.lt
 have E:i+1<z.length:=by have:=h.o.2.2;omega
 have Q:Hd (Y7 a z x=X8 a z (Z8 a x) i):=Me h.o.1 st;have q0:=Xr h.o.1.worth i;have F:=Xr h.o.1.worth (i+1);have r0:=Xr h.o.2.1 i;have r1:=Xr h.o.2.1 (i+1);have u:=h.o.1.up i (by omega);have I:=st.past;have L:=st.left;obtain⟨Y,hc⟩:∃Y,(w.alloc (.cells (Qat y j Z m H X a z) 36)).drewN n=Y:=⟨_,rfl⟩
 have O:Y.cell? (Ad w.heap.size 1)=some (Vf m H z.length X):=by rw[<-hc];simp[go_sem]
 have G:Bw w Y:=by rw[<-hc];exact below_drewN (M _) _
 rw[hc];clear hc;have c0:=cell_later G (N.o i (by omega));have c1:=cell_later G (N.o (i+1) (by omega))
 unfold X8 at Q
 clear st hs;generalize Z8 a x=c at *;generalize at0 a i=a0 at *;generalize at0 a (i+1)=a1 at *;generalize at0 z i=z0 at *;generalize at0 z (i+1)=z1 at*
 have U:((i:Int)+1).toNat=i+1:=by omega
 obtain⟨f,R⟩:∃f,f=a1-c:=⟨_,rfl⟩;obtain⟨g,T⟩:∃g,g=c-a0:=⟨_,rfl⟩
 have W:0<=f:=by omega
 have g0:0<=g:=by omega
 have fg:0<f+g:=by omega
 have fg':f+g<=2000000:=by omega
 have m0:=D9 (a:=z0) (b:=f) (A:=1000000) (B:=2000000) (by omega) (by omega) (by omega) (by omega);have m1:=D9 (a:=z1) (b:=g) (A:=1000000) (B:=2000000) (by omega) (by omega) (by omega) (by omega)
 have P:a1-a0=g+f:=by omega
 rw[<-R,<-T,P] at Q;rw[<-R,<-T];clear R T P;have hn:∀w,Va 373 #[Vi (z0*f+z1*g),Vi (g+f)] w _:=fun w=>RA (z0*f+z1*g) (g+f) (by omega) (by omega) (by omega) (by omega) w;go_quiet ((go_at_call 373;exact Calls.quiet_of (hn _)));go_wp2;go_ret;exact⟨by rw[Q.o];rfl,below_drewN G _⟩
theorem JI(a z:V8)(j y:Nat)(al zl:V9)(w:V6)(G:al.length<=9223372036854775807)(hn:zl.length<=9223372036854775807)(hd:al.length<=j)(ha:Lst w a al)(Y:Lst w z zl):
 Va 197 #[.agg #[.slice a al.length j,.slice z zl.length y]] w fun r w'=>r=.returned (A8 (Ym al zl))/\Bw w w':=by
 have H:=Zb w (.cells #[.slice a al.length j,.slice z zl.length y] 36)
 have X:(w.alloc (.cells #[.slice a al.length j,.slice z zl.length y] 36)).cell? (Ad w.heap.size 1)=some (.slice z zl.length y):=by simp[go_sem]
 by_cases h1:al.length=zl.length
 . have h1':((al.length:Int) != (zl.length:Int))=false:=by simp;omega
   have e:Ym al zl=if Yp al=0 then Z6 zl else Yp al:=by unfold Ym;rw[if_pos h1]
   have Z:=I1 a j al (w.alloc (.cells #[.slice a al.length j,.slice z zl.length y] 36)) G hd (ha.lq H);clear h1
   by_cases h2:Yp al=0
   . rw[if_pos h2] at e;have E:Hd (Ym al zl=Z6 zl):=e;rw[h2] at Z;have Q:Hd (∀u,Below (w.alloc (.cells #[.slice a al.length j,.slice z zl.length y] 36)).heap.size (w.alloc (.cells #[.slice a al.length j,.slice z zl.length y] 36)) u->V1 u w 1 (.slice z zl.length y)/\Bw w u):=fun u m=>⟨cell_later m X,Zc H m⟩;have R:Hd (Lst w z zl):=Y;clear e h2 ha Y X;have cp':Va 238 #[.slice a al.length j] (w.alloc (.cells #[.slice a al.length j,.slice z zl.length y] 36)) fun r w'=>r=.returned .nilIface/\V1 w' w 1 (.slice z zl.length y)/\Bw w w':=Z.mono fun _ u ⟨h,m⟩=>⟨h,Q.o u m⟩;clear Z H Q
     go_enter func197,ntmps197
     go_wp2_with (first
      |(go_at_call 238;refine cp'.mono ?_;rintro e T ⟨rfl,J,hc⟩)
      |(go_at_call 239;refine Sm (Zic z y zl _ hn (R.o.lq hc)) ?_))
     go_ret;exact⟨by rw[E.o];rfl,hc⟩
   . rw[if_neg h2] at e;rw[e];clear e;rw[Zv h2] at Z|-;clear ha Y X h2
     go_enter func197,ntmps197
     go_wp2_with (go_at_call 238;refine Z.mono ?_;rintro e T ⟨rfl,m⟩);go_ret;exact⟨rfl,Zc H m⟩
 . have h1':((al.length:Int) != (zl.length:Int))=true:=by simp;omega
   have e:Ym al zl=3:=by unfold Ym;rw[if_neg h1]
   rw[e];clear e h1 ha Y
   go_enter func197,ntmps197
   go_wp2_with fail;go_ret;exact⟨rfl,H⟩
structure CK (w:V6) (ba oa bz oz:Nat) (a z:V9):Prop where
 may:Ym a z=0
 at':∀k,k<a.length->V2 w ba (oa+k) (at0 a k)
 is':∀k,k<z.length->V2 w bz (oz+k) (at0 z k)
theorem CK.lq{a z:V9}(h:CK w ba oa bz oz a z)(y:Bw w w'):CK w' ba oa bz oz a z:=
 ⟨h.may,fun k hk=>cell_later y (h.at' k hk),fun k hk=>cell_later y (h.is' k hk)⟩
theorem CK.lstA{a z:V9}(h:CK w ba oa bz oz a z):Lst w (some (Ad ba oa)) a:=.inr ⟨ba,oa,rfl,h.at'⟩
theorem CK.lstZ{a z:V9}(h:CK w ba oa bz oz a z):Lst w (some (Ad bz oz)) z:=.inr ⟨bz,oz,rfl,h.is'⟩
theorem CK.len{a z:V9}(h:CK w ba oa bz oz a z):2<=a.length/\a.length<=8/\a.length=z.length:=by
 obtain⟨h1,h2,_⟩:=I8 h.may;exact⟨h2.lo,h2.hi,h1⟩
theorem Jf8(y j m e H Z:Nat)(a z:V9)(w:V6)(ha:a.length<=m)(h:CK w y j e H a z):
 Va 197 #[.agg (Qat y j m e H Z a z)] w fun r w'=>r=.returned .nilIface/\Bw w w':=by
 have:=JI (some (Ad y j)) (some (Ad e H)) m Z a z w (by have:=h.len;omega) (by have:=h.len;omega) ha h.lstA h.lstZ
 rwa[h.may] at this
theorem Jf9(y j H m e Z:Nat)(a z:V9)(x:Int)(w:V6)(h:CK w y j m e a z):
 Va 358 #[.agg (Qat y j H m e Z a z),Vi x] w fun r w'=>r=.returned (Vi (Y7 a z x))/\Bw w w':=by
 obtain⟨h1,h2,h3⟩:=I8 h.may;exact Jde y j H m e Z a z x w h2 h3 h1 h.at' h.is'
theorem Jk7(y j Y m Z X:Nat)(a z:V9)(x:Int)(w:V6)(hc:a.length<=Y)(h:CK w y j m Z a z):
 Va 343 #[.agg (Qat y j Y m Z X a z),Vi x] w fun r w'=>r=.returned (.tuple #[Vi (Y7 a z x),.nilIface])/\Bw w w':=by
 have Q:=Zb w (.cells (Qat y j Y m Z X a z) 36);have R:=Jf8 y j Y m Z X a z _ hc (h.lq Q);have ck':Va 197 #[.agg (Qat y j Y m Z X a z)] (w.alloc (.cells (Qat y j Y m Z X a z) 36))
  fun r w'=>r=.returned .nilIface/\V1 w' w 0 (Vf y j a.length Y)/\V1 w' w 1 (Vf m Z z.length X)/\Bw w w':=
  R.mono fun _ u ⟨h1,G⟩=>⟨h1,cell_later G (by simp[go_sem]),cell_later G (by simp[go_sem]),Zc Q G⟩
 have H:Hd (CK w y j m Z a z):=h;clear h R Q
 go_enter func343,ntmps343
 go_wp2_with (first
  |(go_at_call 197;refine ck'.mono ?_;rintro e T ⟨rfl,J,K,ha⟩)
  |(go_at_call 358;refine Sb (Jf9 y j Y m Z X a z x _ (H.o.lq ha)) fun M hd=>?_))
 go_ret2;exact⟨rfl,Zc ha hd⟩
theorem Jga{B la lz:Nat}{a z:V8}{al zl:V9}(y:Bw u u')(h:(u.cell? (Ad B 0)=some (.slice a la ca)/\u.cell? (Ad B 1)=some (.slice z lz cz))/\Lst u a al/\Lst u z zl/\Below B W u):
 (u'.cell? (Ad B 0)=some (.slice a la ca)/\u'.cell? (Ad B 1)=some (.slice z lz cz))/\Lst u' a al/\Lst u' z zl/\Below B W u':=by
 obtain⟨⟨h1,h2⟩,h3,h4,h5⟩:=h;have hs:=World.block_lt_of_cell? u ⟨B,0,none⟩ h1;exact⟨⟨cell_later y h1,cell_later y h2⟩,h3.lq y,h4.lq y,h5.trans (y.mono (Nat.le_of_lt hs))⟩
theorem WL(al zl:V9)(x:Int)(hx:x=if((al.length:Int) != (zl.length:Int))=true then 3 else 0):Zk [x,Yp al,Z6 zl]=Ym al zl:=by
 subst hx
 unfold Ym
 by_cases h:al.length=zl.length
 . have e:((al.length:Int) != (zl.length:Int))=false:=by simp;omega
   rw[e,if_pos h];simp only[Zk];simp
   rcases Md zl with q|q<;>simp[q]
 . have e:((al.length:Int) != (zl.length:Int))=true:=by simp;omega
   rw[e,if_neg h];rfl
theorem SB(a z:V8)(y j:Nat)(al zl:V9)(w:V6)(X:al.length<=9223372036854775807)(hn:zl.length<=9223372036854775807)(ha:Lst w a al)(H:Lst w z zl):
 Va 181 #[.agg #[.slice a al.length y,.slice z zl.length j]] w fun r w'=>r=.returned (Vi (Ym al zl))/\Bw w w':=by
 have m:=Zb w (.cells #[.slice a al.length y,.slice z zl.length j] 36)
 have Z:Hd (∀u,Below (w.alloc (.cells #[.slice a al.length y,.slice z zl.length j] 36)).heap.size (w.alloc (.cells #[.slice a al.length y,.slice z zl.length j] 36)) u->
  (V1 u w 0 (.slice a al.length y)/\V1 u w 1 (.slice z zl.length j))/\Lst u a al/\Lst u z zl/\Bw w u):=fun u Y=>
  Jga Y ⟨⟨by simp[go_sem],by simp[go_sem]⟩,ha.lq m,H.lq m,m⟩
 have Q:∀u,(V1 u w 0 (.slice a al.length y)/\V1 u w 1 (.slice z zl.length j))/\Lst u a al/\Lst u z zl/\Bw w u->
  Va 230 #[.slice a al.length y] u fun r w'=>r=.returned (Vi (Yp al))/\Bw u w':=fun u h=>WK a y al u X h.2.1
 have hw:∀u,(V1 u w 0 (.slice a al.length y)/\V1 u w 1 (.slice z zl.length j))/\Lst u a al/\Lst u z zl/\Bw w u->
  Va 231 #[.slice z zl.length j] u (Re u (Vi (Z6 zl))):=fun u h=>MP z j zl u hn h.2.2.1
 clear ha H m
 go_enter func181,ntmps181
 go_upto_region 1 with fail
 go_region_held3 (fun u=>(V1 u w 0 (.slice a al.length y)/\V1 u w 1 (.slice z zl.length j))/\Lst u a al/\Lst u z zl/\Bw w u)
  (first
   |(with_reducible assumption)
   |(with_reducible refine Jga Vc ?_;with_reducible assumption)
   |(with_reducible apply Jga;with_reducible assumption;with_reducible assumption)
   |(refine Z.o _ ?_;exact Vb))
  (first
   |(go_at_call 4;refine(IV _ _ _).mono ?_;rintro e w' ⟨x,rfl,hx,rfl⟩)
   |(go_at_call 230;refine(Q _ ?_).mono ?_;(with_reducible assumption);rintro e w' ⟨rfl,Y⟩)
   |(go_at_call 231;refine(hw _ ?_).mono ?_;(with_reducible assumption);rintro e w' ⟨rfl,rfl⟩)
   |(go_at_call 45;refine Sm (IX _ _ _ _ _) ?_))
 all_goals (
  rename_i hH
  have hc:=hH.2.2.2;clear hH Z;go_wp2;go_ret
  exact⟨by rw[WL al zl _ hx.o];rfl,hc⟩)
theorem WM(j m Q Z Y G:Nat)(a z:V9)(x:Int)(w:V6)(h:CK w j m Z Y a z):
 Va 185 #[.agg (Qat j m Q Z Y G a z),Vi x] w fun r w'=>r=.returned (Vi (Y7 a z x))/\Bw w w':=by
 obtain⟨hl,p,N⟩:=I8 h.may;have hb:=p.lo;have hc:=p.hi;have P:=Zb w (.cells (Qat j m Q Z Y G a z) 36);have X:=h.lq P;have R:=X.at' 0 (by omega);have D:=X.at' (a.length-1) (by omega)
 have C:((a.length:Int)-1).toNat=a.length-1:=by omega
 rw[Nat.add_zero] at R
 by_cases c1:at0 a (a.length-1)<=x
 . rw[Jc0 p c1];have K:=X.is' (a.length-1) (by omega)
   have I:(a.length:Int)-1<(z.length:Int):=by omega
   have i0:(0:Int)<=(a.length:Int)-1:=by omega
   clear h X N p hl R;generalize at0 a (a.length-1)=p1 at *;generalize at0 z (a.length-1)=p2 at*
   go_enter func185,ntmps185
   go_wp2_with fail;go_ret;exact⟨rfl,P⟩
 by_cases c2:x<=at0 a 0
 . rw[VT p c2];have K:=X.is' 0 (by omega);rw[Nat.add_zero] at K
   have I:(0:Int)<(z.length:Int):=by omega
   clear h X N p hl;generalize at0 a (a.length-1)=p1 at *;generalize at0 a 0=p3 at *;generalize at0 z 0=p2 at*
   go_enter func185,ntmps185
   go_wp2_with fail;go_ret;exact⟨rfl,P⟩
 have H:Hd (CK (w.alloc (.cells (Qat j m Q Z Y G a z) 36)) j m Z Y a z/\AK a/\Z6 z=0/\a.length=z.length/\at0 a 0<=x/\x<=at0 a (a.length-1)):=⟨X,p,N,hl,by omega,by omega⟩;have L:=Xr p.worth 0;have O:=Xr p.worth (a.length-1)
 have x0:-1000000<=x:=by omega
 have x1:x<=1000000:=by omega
 clear h X N p hl L O
 have START:Hd (a.length-2+1<a.length/\(a.length-2+2<a.length->x<at0 a (a.length-2+1))/\x<=at0 a (a.length-2+1)):=by
  have e:a.length-2+1=a.length-1:=by omega
  refine⟨by omega,fun q=>by omega,?_⟩;rw[e];exact H.o.2.2.2.2.2
 go_enter func185,ntmps185
 go_wp2_with fail;clear R D c1 c2 C
 go_loop [6] (fun i=>∃k:Nat,i=Vi k/\Hd (k+1<a.length/\(k+2<a.length->x<at0 a (k+1))/\x<=at0 a (k+1))) (fun i=>(intOf i).toNat)
 case atStart=>exact⟨a.length-2,by congr 1;omega,START⟩
 case round=>
  obtain⟨k,rfl,T⟩:=hrel;have k1:=T.o.1;have R:=H.o.1.at' k (by omega)
  by_cases hlt:x<at0 a k
  . have k0:0<k:=by
     rcases Nat.eq_zero_or_pos k with q|q
     . subst q;have:=H.o.2.2.2.2.1;omega
     . exact q
    have U:k-1+1=k:=by omega
    have W:Hd (k-1+1<a.length/\(k-1+2<a.length->x<at0 a (k-1+1))/\x<=at0 a (k-1+1)):=by
     rw[U];exact⟨by omega,fun _=>hlt,by omega⟩
    clear T;generalize at0 a k=y at R hlt;go_wp2_with fail
    go_round
    case rel=>exact⟨k-1,by congr 1;omega,W⟩
    case measure=>simp[intOf];omega
  . have st:B5 a x k:=⟨T.o.1,by omega,T.o.2.2,T.o.2.1⟩;have E:Hd (Y7 a z x=X8 a z x k):=Jfn H.o.2.1 H.o.2.2.2.2.1 H.o.2.2.2.2.2 st
    have k2:k+1<z.length:=by have:=H.o.2.2.2.1;omega
    have D:=H.o.1.at' (k+1) (by omega);have F:=H.o.1.is' k (by omega);have K:=H.o.1.is' (k+1) (by omega);have q0:=Xr H.o.2.1.worth k;have q1:=Xr H.o.2.1.worth (k+1);have r0:=Xr H.o.2.2.1 k;have r1:=Xr H.o.2.2.1 (k+1);have u:=H.o.2.1.up k (by omega);have s0:=st.past;have s1:=st.left
    unfold X8 at E
    clear T st;generalize at0 a k=p0 at *;generalize at0 a (k+1)=p1 at *;generalize at0 z k=y0 at *;generalize at0 z (k+1)=y1 at*
    have C:((k:Int)+1).toNat=k+1:=by omega
    have m0:=D9 (a:=y0) (b:=p1-x) (A:=1000000) (B:=2000000) (by omega) (by omega) (by omega) (by omega);have m1:=D9 (a:=y1) (b:=x-p0) (A:=1000000) (B:=2000000) (by omega) (by omega) (by omega) (by omega);have hn:∀w,Va 234 #[Vi (y0*(p1-x)+y1*(x-p0)),Vi (p1-p0)] w _:=fun w=>Jok (y0*(p1-x)+y1*(x-p0)) (p1-p0) (by omega) (by omega) (by omega) (by omega) w
    go_upto_region 9 with fail;go_quiet (fail)
    go_upto_region 10 with fail;obtain⟨M,ha⟩:∃M,(w.alloc (.cells (Qat j m Q Z Y G a z) 36)).drewN nq=M:=⟨_,rfl⟩
    have b0:M.cell? (Ad w.heap.size 0)=some (Vf j m a.length Q):=by rw[<-ha];simp[go_sem]
    have b1:M.cell? (Ad w.heap.size 1)=some (Vf Z Y z.length G):=by rw[<-ha];simp[go_sem]
    have J:Below (w.alloc (.cells (Qat j m Q Z Y G a z) 36)).heap.size (w.alloc (.cells (Qat j m Q Z Y G a z) 36)) M:=by rw[<-ha];exact below_drewN (Below.refl _ _) _
    have hB:=Zc P J;have a0':=cell_later J R;have a1':=cell_later J D;have z0':=cell_later J F;have z1':=cell_later J K;rw[ha];clear ha J R D F K;go_quiet ((go_at_call 234;exact Calls.quiet_of_same (hn _)));go_wp2;go_ret;exact⟨by rw[E.o];rfl,below_drewN hB _⟩
def CX(s n:Int):Int:=(s*n).tdiv 100
def Y8(g aim p:Int):Int:=IS g (Ze (aim-Ze p (-2000000) 2000000) (-1000000) 1000000)
theorem Xu(x:Int){lo hi:Int}(h:lo<=hi):lo<=Ze x lo hi/\Ze x lo hi<=hi:=by
 unfold Ze;split
 . omega
 . split
   . omega
   . split<;>omega
theorem Na(g aim p:Int):-2147483647<=Y8 g aim p/\Y8 g aim p<=2147483647:=by
 unfold Y8 IS;exact⟨IQ _,IR _⟩
theorem OL(h:-100<=s)(y:s<=100)(n0:0<=n)(n1:n<=4000):-400000<=s*n/\s*n<=400000:=by
 have:=D9 (a:=s) (b:=n) (A:=100) (B:=4000) (by omega) (by omega) (by omega) (by omega)
 omega
theorem Jak(h:-100<=s)(y:s<=100)(n0:0<=n)(n1:n<=4000):-400000<=CX s n/\CX s n<=400000:=by
 obtain⟨a,b⟩:=OL h y n0 n1;exact O2 _ _ _ a b
theorem G8(s n:Int)(h:-100<=s)(y:s<=100)(n0:0<=n)(n1:n<=4000)(w:V6):
 Va 322 #[Vi s,Vi n] w (Re w (Vi (CX s n))):=by
 obtain⟨m0,m1⟩:=OL h y n0 n1
 unfold CX
 go_enter func322,ntmps322
 go_wp2;go_ret;exact⟨rfl,rfl⟩
theorem JJ(s n:Int)(y:-100<=s)(j:s<=100)(n0:0<=n)(n1:n<=4000)(w:V6):
 Va 183 #[Vi s,Vi n] w (Re w (Vi (CX s n))):=by
 obtain⟨m0,m1⟩:=OL y j n0 n1
 by_cases h:s<0
 . have m:-400000<=-s*n:=by rw[Int.neg_mul];omega
   have H:-s*n<=400000:=by rw[Int.neg_mul];omega
   obtain⟨d0,d1⟩:=O2 (-s*n) 100 400000 m H
   have e:CX s n=-((-s*n).tdiv 100):=by unfold CX;rw[Int.neg_mul,Int.neg_tdiv];omega
   rw[e];clear e
   go_enter func183,ntmps183
   go_wp2;go_ret;exact⟨rfl,rfl⟩
 . unfold CX
   go_enter func183,ntmps183
   go_wp2;go_ret;exact⟨rfl,rfl⟩
theorem DM(aim p g:Int)(j:-100000<=aim)(e:aim<=100000)(w:V6):
 Va 329 #[Vi aim,Vi p,Vi g] w (Rt w (Vi (Y8 g aim p))):=by
 have c1:=Y1 p (-2000000) 2000000;have h:=Xu p (lo:=-2000000) (hi:=2000000) (by omega);have c2:=Y1 (aim-Ze p (-2000000) 2000000) (-1000000) 1000000;have c3:=JF g (Ze (aim-Ze p (-2000000) 2000000) (-1000000) 1000000);obtain⟨H,Z⟩:=h
 unfold Y8
 generalize IS g (Ze (aim-Ze p (-2000000) 2000000) (-1000000) 1000000)=m at *;generalize Ze (aim-Ze p (-2000000) 2000000) (-1000000) 1000000=y at *;generalize Ze p (-2000000) 2000000=x at*
 go_enter func329,ntmps329
 go_wp2_with (first
  |(go_at_call_of 264 p;refine Sm (c1 _) ?_)
  |(go_at_call_of 264 (aim-x);refine Sm (c2 _) ?_)
  |(go_at_call 351;refine Sm (c3 _) ?_))
 go_ret;exact⟨rfl,Vb⟩
theorem G9(g aim k p v n q:Int)(j:-100000<=aim)(e:aim<=100000)(w:V6):
 Va 184 #[Vi g,Vi aim,.agg #[Vi k,Vi p,Vi v,Vi n,Vi q]] w (Rt w (Vi (Y8 g aim p))):=by
 have c1:=Yx p (-2000000) 2000000;have h:=Xu p (lo:=-2000000) (hi:=2000000) (by omega);have c2:=Yx (aim-Ze p (-2000000) 2000000) (-1000000) 1000000;have c3:=JG g (Ze (aim-Ze p (-2000000) 2000000) (-1000000) 1000000);obtain⟨H,Z⟩:=h
 unfold Y8
 generalize IS g (Ze (aim-Ze p (-2000000) 2000000) (-1000000) 1000000)=m at *;generalize Ze (aim-Ze p (-2000000) 2000000) (-1000000) 1000000=y at *;generalize Ze p (-2000000) 2000000=x at*
 go_enter func184,ntmps184
 go_wp2_with (first
  |(go_at_call_of 72 p;refine Sm (c1 _) ?_)
  |(go_at_call_of 72 (aim-x);refine Sm (c2 _) ?_)
  |(go_at_call 233;refine Sm (c3 _) ?_))
 go_ret;exact⟨rfl,Zb _ _⟩
theorem M6(L H U B M:Int)(a z:V8)(al zl h y:Nat)(x:Int)(m0:1<=M)(m1:M<=4000)(w:V6):
 Va 328 #[.agg #[Vi L,Vi H,Vi U,Vi B,Vi M,.slice a al h,.slice z zl y],Vi x] w (Rt w (Vi (Ze x (-M) M))):=by
 have c1:=Y1 x (-M) M;generalize Ze x (-M) M=m at*
 go_enter func328,ntmps328
 go_wp2_with (go_at_call 264;refine Sm (c1 _) ?_);go_ret;exact⟨rfl,Zb _ _⟩
def ruB(L H U B M:Int):Bool:=A1 L (-100000) 100000&&A1 H (-100000) 100000&&A1 U 0 1000&&A1 B 0 65536&&A1 M 1 4000
theorem Wk(h:ruB L H U B M=true):(-100000<=L/\L<=100000)/\(-100000<=H/\H<=100000)/\(0<=U/\U<=1000)/\(0<=B/\B<=65536)/\1<=M/\M<=4000:=by
 simp only[ruB,Bool.and_eq_true] at h;exact⟨Zw h.1.1.1.1,Zw h.1.1.1.2,Zw h.1.1.2,Zw h.1.2,Zw h.2⟩
theorem SC(L H U B M:Int)(a z:V8)(al zl h y:Nat)(w:V6):
 Va 196 #[.agg #[Vi L,Vi H,Vi U,Vi B,Vi M,.slice a al h,.slice z zl y]] w (Rt w (.bool (ruB L H U B M))):=by
 have j:=Ys L (-100000) 100000;have m:=Ys H (-100000) 100000;have f3:=Ys U 0 1000;have e:=Ys B 0 65536;have Z:=Ys M 1 4000
 unfold ruB
 generalize A1 L (-100000) 100000=x1 at *;generalize A1 H (-100000) 100000=x2 at *;generalize A1 U 0 1000=x3 at *;generalize A1 B 0 65536=x4 at *;generalize A1 M 1 4000=x5 at*
 rcases(show x1=false\/(x1=true/\x2=false)\/(x1=true/\x2=true/\x3=false)\/(x1=true/\x2=true/\x3=true/\x4=false)\/(x1=true/\x2=true/\x3=true/\x4=true) by cases x1<;>cases x2<;>cases x3<;>cases x4<;>simp) with rfl|⟨rfl,rfl⟩|⟨rfl,rfl,rfl⟩|⟨rfl,rfl,rfl,rfl⟩|⟨rfl,rfl,rfl,rfl⟩
 all_goals
  go_enter func196,ntmps196
  go_wp2_with (first
   |(go_at_call_of 55 L;refine Sm (j _) ?_)
   |(go_at_call_of 55 H;refine Sm (m _) ?_)
   |(go_at_call_of 55 U;refine Sm (f3 _) ?_)
   |(go_at_call_of 55 B;refine Sm (e _) ?_)
   |(go_at_call_of 55 M;refine Sm (Z _) ?_))
  go_ret;exact⟨by simp,by repeat (first|exact Zb _ _|refine Zc ?_ Vc)⟩
def gaU(z:V9):Nat->Int
 |0=>0
 |k+1=>Zk [gaU z k,if A1 (at0 z k) 0 65536 then 0 else 1]
theorem WN(x y:Int):Zk [x,y]=if x=0 then y else x:=by
 simp only[Zk]
 by_cases h:y=0
 . rw[if_pos h,h]
 . rw[if_neg h]
theorem SD(z:V9)(k:Nat):gaU z (k+1)=if gaU z k=0 then(if A1 (at0 z k) 0 65536 then 0 else 1) else gaU z k:=WN _ _
theorem Jgb{z:V9}(h:gaU z k≠0):∀m,k<=m->gaU z m=gaU z k:=by
 intro m y
 induction m with
 |zero=>
  have:k=0:=by omega
  subst this;rfl
 |succ m ih=>
  by_cases e:k=m+1
  . subst e;rfl
  . have i:=ih (by omega);rw[SD,i,if_neg h]
def r0E(L H U B M:Int)(al zl:V9):Int:=Zk [if ruB L H U B M then 0 else 1,if H<L then 3 else 0,Ym al zl]
def ruE(L H U B M:Int)(al zl:V9):Int:=if r0E L H U B M al zl=0 then gaU zl zl.length else r0E L H U B M al zl
def rkE(L H U B M:Int)(al zl:V9)(k:Nat):Int:=if r0E L H U B M al zl=0 then gaU zl k else r0E L H U B M al zl
theorem Jgc(L H U B M:Int)(al zl:V9):rkE L H U B M al zl 0=r0E L H U B M al zl:=by
 unfold rkE;split
 . rename_i h;rw[h];rfl
 . rfl
theorem Jgd(L H U B M:Int)(al zl:V9)(k:Nat):rkE L H U B M al zl (k+1)=Zk [rkE L H U B M al zl k,if A1 (at0 zl k) 0 65536 then 0 else 1]:=by
 unfold rkE;split
 . rfl
 . rename_i h;simp only[Zk];rw[if_neg h]
theorem Jge{al zl:V9}(h:r0E L H U B M al zl=0):ruB L H U B M=true/\L<=H/\Ym al zl=0:=by
 unfold r0E at h
 by_cases h1:ruB L H U B M=true
 . rw[if_pos h1] at h
   by_cases h2:H<L
   . rw[if_pos h2] at h;cases h
   . rw[if_neg h2] at h;refine⟨h1,by omega,?_⟩;simp only[Zk] at h;simp at h;exact Classical.byContradiction fun q=>q (h q)
 . rw[if_neg h1] at h;cases h
theorem Wl{al zl:V9}(h:ruE L H U B M al zl=0):ruB L H U B M=true/\L<=H/\Ym al zl=0/\gaU zl zl.length=0:=by
 unfold ruE at h
 split at h
 . rename_i h0;obtain⟨a,b,c⟩:=Jge h0;exact⟨a,b,c,h⟩
 . rename_i h0;exact absurd h h0
theorem X3{Q:Nat}{a z:V8}{al zl:V9}(y:Bw u u')(h:(u.cell? (Ad Q 0)=some (Vi L)/\u.cell? (Ad Q 1)=some (Vi H)/\u.cell? (Ad Q 2)=some (Vi U)/\u.cell? (Ad Q 3)=some (Vi B)/\u.cell? (Ad Q 4)=some (Vi M)/\u.cell? (Ad Q 5)=some (.slice a al.length ca)/\u.cell? (Ad Q 6)=some (.slice z zl.length cz))/\Lst u a al/\Lst u z zl/\Below Q W u):(u'.cell? (Ad Q 0)=some (Vi L)/\u'.cell? (Ad Q 1)=some (Vi H)/\u'.cell? (Ad Q 2)=some (Vi U)/\u'.cell? (Ad Q 3)=some (Vi B)/\u'.cell? (Ad Q 4)=some (Vi M)/\u'.cell? (Ad Q 5)=some (.slice a al.length ca)/\u'.cell? (Ad Q 6)=some (.slice z zl.length cz))/\Lst u' a al/\Lst u' z zl/\Below Q W u':=by
 obtain⟨⟨h0,h1,h2,h3,h4,h5,h6⟩,j,m,e⟩:=h;have hs:=World.block_lt_of_cell? u ⟨Q,0,none⟩ h0;exact⟨⟨cell_later y h0,cell_later y h1,cell_later y h2,cell_later y h3,cell_later y h4,cell_later y h5,cell_later y h6⟩,j.lq y,m.lq y,e.trans (y.mono (Nat.le_of_lt hs))⟩
theorem Jnw(L H U B M:Int)(a z:V8)(h y:Nat)(al zl:V9)(w:V6)(ha:Lst w a al)(j:Lst w z zl):(fun u=>(V0 u w 0 L/\V0 u w 1 H/\V0 u w 2 U/\V0 u w 3 B/\V0 u w 4 M/\V1 u w 5 (.slice a al.length h)/\V1 u w 6 (.slice z zl.length y))/\Lst u a al/\Lst u z zl/\Bw w u) (w.alloc (.cells (Qas L H U B M a z al zl h y) 224)):=
 ⟨by refine⟨?_,?_,?_,?_,?_,?_,?_⟩<;>simp[go_sem],ha.lq Vc,j.lq Vc,Zb _ _⟩
theorem Zka(L H U B M:Int)(a z:V8)(T J:Nat)(al zl:V9)(hm:al.length<=9223372036854775807)(hn:zl.length<=9223372036854775807)(hr:al.length<=T)(w:V6)(ha:Lst w a al)(I:Lst w z zl):
 Va 155 #[.agg (Qas L H U B M a z al zl T J)] w (Rt w (A8 (ruE L H U B M al zl))):=by
 have G:=SC L H U B M a z al.length zl.length T J;have j:=fun u (h1:Lst u a al) (h2:Lst u z zl)=>JI a z T J al zl u hm hn hr h1 h2;have h:=Za (Jnw L H U B M a z T J al zl w ha I)
 dsimp only at h
 clear ha I
 by_cases h1:ruB L H U B M=true
 . rw[h1] at G
   by_cases h2:H<L
   . have R:=Za (show ruE L H U B M al zl=3 by unfold ruE r0E;rw[if_pos h1,if_pos h2];rfl);clear h1 j
     go_enter func155,ntmps155
     go_wp2_with (first
      |(go_at_call 196;refine Sb (G _) fun P hd=>?_;have h:=Za (X3 hd h.o);obtain⟨⟨q0,m,Z,Y,q4,X,Q⟩,_⟩:=h.o;clear hd)
      |(go_at_call 197;refine Sb (j _ h.o.2.1 h.o.2.2.1) fun D y=>?_;have h:=Za (X3 y h.o);obtain⟨⟨q0,m,Z,Y,q4,X,Q⟩,_⟩:=h.o;clear y))
     go_ret;exact⟨by rw[R.o];rfl,h.o.2.2.2⟩
   . by_cases h3:Ym al zl=0
     . have O:=Za (show ruE L H U B M al zl=gaU zl zl.length by unfold ruE;rw[if_pos];unfold r0E;rw[if_pos h1,if_neg h2,h3];rfl);simp only[h3,Z0] at j;clear h1 h3
       go_enter func155,ntmps155
       go_wp2_with (first
        |(go_at_call 196;refine Sb (G _) fun P hd=>?_;have h:=Za (X3 hd h.o);obtain⟨⟨q0,m,Z,Y,q4,X,Q⟩,_⟩:=h.o;clear hd)
        |(go_at_call 197;refine Sb (j _ h.o.2.1 h.o.2.2.1) fun D y=>?_;have h:=Za (X3 y h.o);obtain⟨⟨q0,m,Z,Y,q4,X,Q⟩,_⟩:=h.o;clear y))
       go_loopw [28] (fun i wr=>∃k:Nat,k<=zl.length/\i=Vi k/\Hd (gaU zl k=0)/\Lst wr z zl/\Bw w wr) (fun i _=>zl.length-(intOf i).toNat)
       case atStart=>exact⟨0,Nat.zero_le _,rfl,rfl,h.o.2.2.1,h.o.2.2.2⟩
       case round=>
        clear h q0 m Z Y q4 X Q;obtain⟨k,hk,rfl,C,hl,F⟩:=hrel
        by_cases hlt:k<zl.length
        . obtain⟨bz,oz,rfl,A⟩:=hl.at (Ug hlt);have hc:=A k hlt;have HL:=Za hl;have W:=Za F;have K:=Za (SD zl k);have hi:=Yy (at0 zl k) 0 65536
          have j0:(0:Int)<=(k:Int):=by omega
          have j1:(k:Int)<(zl.length:Int):=by omega
          clear A hl F
          by_cases hq:A1 (at0 zl k) 0 65536=true
          . have HS:=Za (show gaU zl (k+1)=0 by rw[K.o,if_pos C.o,if_pos hq]);rw[hq] at hi;clear hq K;generalize at0 zl k=x at*
            go_wp2_with (go_at_call 55;refine Sb (hi _) fun w3 N=>?_);go_roundw
            case rel=>exact⟨k+1,by omega,by go_num,HS,HL.o.lq N,Zc W.o N⟩
            case measure=>simp[intOf];omega
          . have ho:gaU zl (k+1)=1:=by rw[K.o,if_pos C.o,if_neg hq]
            have HF:=Za (show ruE L H U B M al zl=1 by rw[O.o,Jgb (k:=k+1) (by rw[ho];decide) _ (by omega),ho]);rw[show A1 (at0 zl k) 0 65536=false by simpa using hq] at hi;clear hq ho K;generalize at0 zl k=x at*
            go_wp2_with (go_at_call 55;refine Sb (hi _) fun w3 N=>?_);go_ret;exact⟨by rw[HF.o];rfl,Zc W.o N⟩
        . have e:k=zl.length:=by omega
          subst e;go_wp2;go_ret;exact⟨by rw[O.o,C.o];rfl,F⟩
     . have R:=Za (show ruE L H U B M al zl=Ym al zl by
        have e:r0E L H U B M al zl=Ym al zl:=by unfold r0E;rw[if_pos h1,if_neg h2];simp only[Zk];simp[h3]
        unfold ruE;rw[e,if_neg h3])
       rw[R.o];simp only[Zv h3] at j|-;clear h1 h3 R;generalize Ym al zl=E at*
       go_enter func155,ntmps155
       go_wp2_with (first
        |(go_at_call 196;refine Sb (G _) fun P hd=>?_;have h:=Za (X3 hd h.o);obtain⟨⟨q0,m,Z,Y,q4,X,Q⟩,_⟩:=h.o;clear hd)
        |(go_at_call 197;refine Sb (j _ h.o.2.1 h.o.2.2.1) fun D y=>?_;have h:=Za (X3 y h.o);obtain⟨⟨q0,m,Z,Y,q4,X,Q⟩,_⟩:=h.o;clear y))
       go_ret;exact⟨rfl,h.o.2.2.2⟩
 . have R:=Za (show ruE L H U B M al zl=1 by unfold ruE r0E;rw[if_neg h1];rfl);rw[show ruB L H U B M=false by simpa using h1] at G;clear h1 j
   go_enter func155,ntmps155
   go_wp2_with (first
    |(go_at_call 196;refine Sb (G _) fun P hd=>?_;have h:=Za (X3 hd h.o);obtain⟨⟨q0,m,Z,Y,q4,X,Q⟩,_⟩:=h.o;clear hd)
    |(go_at_call 197;refine Sb (j _ h.o.2.1 h.o.2.2.1) fun D y=>?_;have h:=Za (X3 y h.o);obtain⟨⟨q0,m,Z,Y,q4,X,Q⟩,_⟩:=h.o;clear y))
   go_ret;exact⟨by rw[R.o];rfl,h.o.2.2.2⟩
theorem I2(L H U B M:Int)(a z:V8)(Z Y:Nat)(al zl:V9)(P:al.length<=9223372036854775807)(hn:zl.length<=9223372036854775807)(w:V6)(ha:Lst w a al)(X:Lst w z zl):
 Va 128 #[.agg (Qas L H U B M a z al zl Z Y)] w (Rt w (Vi (ruE L H U B M al zl))):=by
 have m:=Za (Jnw L H U B M a z Z Y al zl w ha X)
 dsimp only at m
 have Q:∀u,(V0 u w 0 L/\V0 u w 1 H/\V0 u w 2 U/\V0 u w 3 B/\V0 u w 4 M/\V1 u w 5 (.slice a al.length Z)/\V1 u w 6 (.slice z zl.length Y))/\Lst u a al/\Lst u z zl/\Bw w u->Va 181 #[.agg #[.slice a al.length Z,.slice z zl.length Y]] u fun r w'=>r=.returned (Vi (Ym al zl))/\Bw u w':=fun u h=>SB a z Z Y al zl u P hn h.2.1 h.2.2.1;have hd:=Za (show r0E L H U B M al zl=Zk [if ruB L H U B M then 0 else 1,if H<L then 3 else 0,Ym al zl] from rfl)
 have G:∀w,Va 4 #[.bool (decide (H<L)),Vi 3] w (Re w (Vi (if H<L then 3 else 0))):=by
  intro w
  by_cases h:H<L
  . rw[decide_eq_true h,if_pos h];exact Yr 3 w
  . rw[decide_eq_false h,if_neg h];exact X0 3 w
 have R:=Za (Jgc L H U B M al zl);have D:=Za (show ruE L H U B M al zl=rkE L H U B M al zl zl.length from rfl);have C:=Za (Jgd L H U B M al zl);have hy:∃y:Int,y=if H<L then 3 else 0:=⟨_,rfl⟩;obtain⟨y,hy⟩:=hy;rw[<-hy] at G hd;clear hy ha X;have F:=Zy L (-100000) 100000;have I:=Zy H (-100000) 100000;have f3:=Zy U 0 1000;have O:=Zy B 0 65536;have A:=Zy M 1 4000
 unfold ruB at hd
 generalize A1 L (-100000) 100000=x1 at *;generalize A1 H (-100000) 100000=x2 at *;generalize A1 U 0 1000=x3 at *;generalize A1 B 0 65536=x4 at *;generalize A1 M 1 4000=x5 at*
 rcases(show x1=false\/(x1=true/\x2=false)\/(x1=true/\x2=true/\x3=false)\/(x1=true/\x2=true/\x3=true/\x4=false)\/(x1=true/\x2=true/\x3=true/\x4=true/\x5=false)\/(x1=true/\x2=true/\x3=true/\x4=true/\x5=true) by cases x1<;>cases x2<;>cases x3<;>cases x4<;>cases x5<;>simp) with rfl|⟨rfl,rfl⟩|⟨rfl,rfl,rfl⟩|⟨rfl,rfl,rfl,rfl⟩|⟨rfl,rfl,rfl,rfl,rfl⟩|⟨rfl,rfl,rfl,rfl,rfl⟩
 all_goals
  simp only[Bool.and_false,Bool.false_and,Bool.and_self,Bool.false_eq_true,if_false,if_true] at hd;generalize Ym al zl=E at *;generalize r0E L H U B M al zl=e0 at*
  go_enter func128,ntmps128
  go_upto_region 2 with(first
   |(go_at_call_of 22 L;refine Sm (F _) ?_)
   |(go_at_call_of 22 H;refine Sm (I _) ?_)
   |(go_at_call_of 22 U;refine Sm (f3 _) ?_)
   |(go_at_call_of 22 B;refine Sm (O _) ?_)
   |(go_at_call_of 22 M;refine Sm (A _) ?_))
  obtain⟨j,T⟩:∃j,w.alloc (.cells (Qas L H U B M a z al zl Z Y) 224)=j:=⟨_,rfl⟩;rw[T] at m|-;clear T;have S0:(V0 j w 0 L/\V0 j w 1 H/\V0 j w 2 U/\V0 j w 3 B/\V0 j w 4 M/\V1 j w 5 (.slice a al.length Z)/\V1 j w 6 (.slice z zl.length Y))/\Lst j a al/\Lst j z zl/\Bw w j:=m.o
  go_region_held3 (fun u=>(V0 u w 0 L/\V0 u w 1 H/\V0 u w 2 U/\V0 u w 3 B/\V0 u w 4 M/\V1 u w 5 (.slice a al.length Z)/\V1 u w 6 (.slice z zl.length Y))/\Lst u a al/\Lst u z zl/\Bw w u)
   (first
    |(with_reducible assumption)
    |(with_reducible refine X3 Vc ?_;with_reducible assumption)
    |(with_reducible apply X3;with_reducible assumption;with_reducible assumption)
    |(refine X3 ?_ m.o;exact Vb))
   (first
    |(go_at_call_of 4 (3:Int);refine Sm (G _) ?_)
    |(go_at_call_of 4 (Value.bool true);refine Sm (Yr _ _) ?_)
    |(go_at_call_of 4 (Value.bool false);refine Sm (X0 _ _) ?_)
    |(go_at_call 181;refine(Q _ ?_).mono ?_;(with_reducible assumption);rintro e w' ⟨rfl,hb⟩)
    |(go_at_call 45;refine Sm (IX _ _ _ _ _) ?_))
  all_goals
   rename_i hH
   have m:=Za hH;obtain⟨⟨_,_,_,_,_,_,J⟩,_⟩:=hH;clear Q;go_wp2_with fail
   go_loopw [4,5] (fun e i wr=>∃k:Nat,k<=zl.length/\i=Vi k/\e=Vi (rkE L H U B M al zl k)/\((V0 wr w 0 L/\V0 wr w 1 H/\V0 wr w 2 U/\V0 wr w 3 B/\V0 wr w 4 M/\V1 wr w 5 (.slice a al.length Z)/\V1 wr w 6 (.slice z zl.length Y))/\Lst wr a al/\Lst wr z zl/\Bw w wr)) (fun _ i _=>zl.length-(intOf i).toNat)
   case atStart=>exact⟨0,Nat.zero_le _,rfl,by rw[R.o,hd.o],m.o⟩
   case round=>
    clear m J R hd;obtain⟨k,hk,rfl,rfl,K⟩:=hrel;have m:=Za K;obtain⟨⟨_,_,_,_,_,_,J⟩,_⟩:=K
    by_cases hlt:k<zl.length
    . obtain⟨bz,oz,rfl,N⟩:=m.o.2.2.1.at (Ug hlt);have hc:=N k hlt;have W:=Za (C.o k);have hi:=Zy (at0 zl k) 0 65536
      have hj:∀w,Va 4 #[.bool (!A1 (at0 zl k) 0 65536),Vi 1] w (Re w (Vi (if A1 (at0 zl k) 0 65536 then 0 else 1))):=by
       intro w;cases A1 (at0 zl k) 0 65536
       . exact Yr 1 w
       . exact X0 1 w
      have j0:(0:Int)<=(k:Int):=by omega
      have j1:(k:Int)<(zl.length:Int):=by omega
      clear N;generalize (if A1 (at0 zl k) 0 65536 then(0:Int) else 1)=t at *;generalize A1 (at0 zl k) 0 65536=b at *;generalize at0 zl k=x at *;generalize rkE L H U B M al zl k=s at*
      go_wp2_with (first
       |(go_at_call 22;refine Sm (hi _) ?_)
       |(go_at_call 4;refine Sm (hj _) ?_)
       |(go_at_call 45;refine Sm (IW _ _ _ _) ?_))
      go_roundw
      case rel=>exact⟨k+1,by omega,by go_num,by rw[W.o],X3 Vc m.o⟩
      case measure=>simp[intOf];omega
    . have e:k=zl.length:=by omega
      subst e;go_wp2_with fail;go_ret;exact⟨by rw[D.o];rfl,m.o.2.2.2⟩
end Go.Proofs.YtnepnnkdgejheaaGreatDoor
