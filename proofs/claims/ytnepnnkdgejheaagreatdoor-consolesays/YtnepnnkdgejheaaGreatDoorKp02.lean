import Derived.WalkLawsBesides
import Derived.WalkSpells
import Derived.ProofKit
import Derived.Outline
import Derived.RegionTactic
import Derived.ChangeAlike
import Derived.Deep.QuietTactic
import Derived.BigQuiet
import Derived.Test.YtnepnnkdgejheaaGreatDoorKp00
set_option maxRecDepth 100000
set_option maxHeartbeats 20000000
namespace Go.Proofs.YtnepnnkdgejheaaGreatDoor.Plain
def ofI(x:Int):Int:=if x< -2147483647 then -2147483647 else if 2147483647<x then 2147483647 else x
theorem IQ(x:Int):-2147483647<=ofI x:=by unfold ofI;split<;>(try split)<;>omega
theorem IR(x:Int):ofI x<=2147483647:=by unfold ofI;split<;>(try split)<;>omega
theorem Jfi{a b:Int}(ha:-2147483647<=a)(ha':a<=2147483647)(h:-2147483647<=b)(hb':b<=2147483647):-4611686014132420609<=a*b/\a*b<=4611686014132420609:=by
 have h1:0<=(2147483647-a)*(2147483647+b):=Int.mul_nonneg (by omega) (by omega);have h2:0<=(2147483647+a)*(2147483647-b):=Int.mul_nonneg (by omega) (by omega);have h3:0<=(2147483647-a)*(2147483647-b):=Int.mul_nonneg (by omega) (by omega);have h4:0<=(2147483647+a)*(2147483647+b):=Int.mul_nonneg (by omega) (by omega);simp only[Int.sub_mul,Int.mul_sub,Int.add_mul,Int.mul_add] at h1 h2 h3 h4
 constructor<;>omega
def Y5(n d:Int):Int:=if n<0 then -((2*(-n)+d)/(2*d)) else(2*n+d)/(2*d)
theorem EQ(n d:Int)(h:0<d):Y5 (-n) d=-Y5 n d:=by
 unfold Y5
 rcases Int.lt_trichotomy n 0 with h0|h0|h0
 . rw[if_neg (by omega),if_pos h0];omega
 . subst h0;have e:(2*0+d)/(2*d)=0:=Int.ediv_eq_zero_of_lt (by omega) (by omega);simp only[Int.neg_zero,Int.lt_irrefl,if_false];rw[e];rfl
 . rw[if_pos (by omega),if_neg (by omega)];simp
theorem R4(n d:Int)(hd:0<d)(_hn:0<=n):(2*n+d)/(2*d)=if 2*(n%d)<d then n/d else n/d+1:=by
 have e:=Int.mul_ediv_add_emod n d;have r0:=Int.emod_nonneg n (show d≠0 by omega);have r1:=Int.emod_lt_of_pos n hd
 have:2*n+d=(2*(n%d)+d)+(2*d)*(n/d):=by
  have:2*n=2*(d*(n/d))+2*(n%d):=by omega
  have h:2*(d*(n/d))=2*d*(n/d):=by rw[Int.mul_assoc]
  omega
 rw[this,Int.add_mul_ediv_left _ _ (by omega)]
 split
 . rw[Int.ediv_eq_zero_of_lt (by omega) (by omega)];omega
 . have:(2*(n%d)+d)/(2*d)=1:=by
    have:2*(n%d)+d=(2*(n%d)-d)+(2*d)*1:=by omega
    rw[this,Int.add_mul_ediv_left _ _ (by omega),Int.ediv_eq_zero_of_lt (by omega) (by omega)];rfl
   omega
theorem D7{n d:Int}(hd:0<d)(hn:0<=n):0<=Y5 n d:=by
 unfold Y5;rw[if_neg (by omega)];exact Int.ediv_nonneg (by omega) (by omega)
theorem R5{n d:Int}(hd:0<d)(hn:0<=n):Y5 n d<=n:=by
 unfold Y5;rw[if_neg (by omega),R4 n d hd hn]
 have e:=Int.mul_ediv_add_emod n d;have r0:=Int.emod_nonneg n (show d≠0 by omega);have q0:0<=n/d:=Int.ediv_nonneg hn (by omega)
 have m:n/d<=d*(n/d):=by
  have:0<=(d-1)*(n/d):=Int.mul_nonneg (by omega) q0;rw[Int.sub_mul] at this;omega
 split<;>omega
def Y6(n d:Int):Int:=if 2*max (n.tmod d) (-(n.tmod d))<max d (-d) then n.tdiv d else if(decide (n<0) != decide (d<0))=true then n.tdiv d-1 else n.tdiv d+1
theorem R6(n d:Int)(hd:0<d)(hn:0<=n):Y6 n d=Y5 n d:=by
 unfold Y6 Y5
 rw[if_neg (show ¬n<0 by omega),R4 n d hd hn,Int.tmod_eq_emod_of_nonneg hn,Int.tdiv_eq_ediv_of_nonneg hn];have r0:=Int.emod_nonneg n (show d≠0 by omega)
 have h:max (n%d) (-(n%d))=n%d:=by omega
 have y:max d (-d)=d:=by omega
 rw[h,y]
 split
 . rfl
 . rw[if_neg];simp;omega
theorem Jfj(n d:Int)(hd:0<d):Y6 (-n) d=-Y6 n d:=by
 by_cases h:n=0
 . subst h;unfold Y6;simp;omega
 . unfold Y6
   rw[Int.neg_tmod,Int.neg_tdiv]
   have y:max (-(n.tmod d)) (- -(n.tmod d))=max (n.tmod d) (-(n.tmod d)):=by omega
   rw[y]
   by_cases hn:n<0
   . have h1:decide (-n<0)=false:=by simp;omega
     have h2:decide (n<0)=true:=by simp;omega
     have h3:decide (d<0)=false:=by simp;omega
     rw[h1,h2,h3];split
     . rfl
     . simp;omega
   . have h1:decide (-n<0)=true:=by simp;omega
     have h2:decide (n<0)=false:=by simp;omega
     have h3:decide (d<0)=false:=by simp;omega
     rw[h1,h2,h3];split
     . rfl
     . simp;omega
theorem Jcw(n d:Int)(hd:0<d):Y6 n d=Y5 n d:=by
 by_cases hn:0<=n
 . exact R6 n d hd hn
 . have:=R6 (-n) d hd (by omega);rw[Jfj n d hd,EQ n d hd] at this;omega
def IS(a b:Int):Int:=ofI (Y5 (ofI a*ofI b) 256)
theorem Jfk(a b:Int):ofI (Y6 (ofI a*ofI b) 256)=IS a b:=by unfold IS;rw[Jcw _ _ (by omega)]
theorem O2(n d B:Int)(h1:-B<=n)(h2:n<=B):-B<=n.tdiv d/\n.tdiv d<=B:=by
 have h:(n.tdiv d).natAbs<=n.natAbs:=by rw[Int.natAbs_tdiv];exact Nat.div_le_self _ _
 omega
theorem Jky(n d B:Int)(hd:d≠0)(h1:-B<=d)(h2:d<=B):-B<=n.tmod d/\n.tmod d<=B:=by
 have h:(n.tmod d).natAbs<d.natAbs:=by rw[Int.natAbs_tmod];exact Nat.mod_lt _ (by omega)
 omega
theorem Jfl{n d B:Int}(hd:0<d)(h1:-B<=n)(h2:n<=B):-B<=Y5 n d/\Y5 n d<=B:=by
 by_cases hn:0<=n
 . have:=D7 hd hn;have:=R5 hd hn;omega
 . have a:=D7 (n:=-n) hd (by omega);have b:=R5 (n:=-n) hd (by omega);rw[EQ n d hd] at a b;omega
end Go.Proofs.YtnepnnkdgejheaaGreatDoor.Plain
namespace Go.Proofs.YtnepnnkdgejheaaGreatDoor
open Go.RowKit Plain Tryz
def Ze(x lo hi:Int):Int:=if x<lo then lo else if hi<lo then lo else if hi<x then hi else x
theorem Y1(x lo hi:Int)(w:V6):Va 264 #[Vi x,Vi lo,Vi hi] w (Re w (Vi (Ze x lo hi))):=by
 unfold Ze
 by_cases h1:x<lo
 . rw[if_pos h1]
   go_enter func264,ntmps264
   go_wp2;go_ret;exact⟨rfl,rfl⟩
 . rw[if_neg h1]
   by_cases h2:hi<lo
   . rw[if_pos h2]
     go_enter func264,ntmps264
     go_wp2;go_ret;exact⟨rfl,rfl⟩
   . rw[if_neg h2]
     by_cases h3:hi<x
     . rw[if_pos h3]
       go_enter func264,ntmps264
       go_wp2;go_ret;exact⟨rfl,rfl⟩
     . rw[if_neg h3]
       go_enter func264,ntmps264
       go_wp2;go_ret;exact⟨rfl,rfl⟩
theorem Yx(x lo hi:Int)(w:V6)(h:lo<=hi:=by omega):Va 72 #[Vi x,Vi lo,Vi hi] w (Re w (Vi (Ze x lo hi))):=by
 unfold Ze
 by_cases h1:x<lo
 . rw[if_pos h1]
   by_cases h3:hi<lo
   . omega
   . go_enter func72,ntmps72
     go_wp2;go_ret;exact⟨rfl,rfl⟩
 . rw[if_neg h1,if_neg (show ¬hi<lo by omega)]
   by_cases h3:hi<x
   . rw[if_pos h3]
     go_enter func72,ntmps72
     go_wp2;go_ret;exact⟨rfl,rfl⟩
   . rw[if_neg h3]
     go_enter func72,ntmps72
     go_wp2;go_ret;exact⟨rfl,rfl⟩
theorem Jab(x:Int):Ze x (-2147483647) 2147483647=ofI x:=by
 unfold Ze ofI;rw[if_neg (show ¬((2147483647:Int)< -2147483647) by omega)]
theorem Jcx(x:Int)(w:V6):Va 360 #[Vi x] w (Re w (Vi (ofI x))):=by
 go_enter func360,ntmps360
 go_wp2_with (go_at_call 264;refine Sm (Y1 _ _ _ _) ?_);go_ret;rw[Jab];exact⟨rfl,rfl⟩
theorem Jcy(x:Int)(w:V6):Va 273 #[Vi x] w (Re w (Vi (ofI x))):=by
 go_enter func273,ntmps273
 go_wp2_with (go_at_call 72;refine Sm (Yx _ _ _ _) ?_);go_ret;rw[Jab];exact⟨rfl,rfl⟩
end Go.Proofs.YtnepnnkdgejheaaGreatDoor
namespace Go.Proofs.YtnepnnkdgejheaaGreatDoor.Plain
def at0(l:V9)(k:Nat):Int:=l.getD k 0
def Zx(x:Int):Bool:=decide (-1000000<=x)&&decide (x<=1000000)
theorem U8{x:Int}(h:Zx x=true):-1000000<=x/\x<=1000000:=by simp[Zx] at h;omega
def Z6(l:V9):Int:=if l.all Zx then 0 else 1
theorem IT(l:V9)(k:Nat)(h:k<l.length):Z6 (l.drop k)=if Zx (at0 l k) then Z6 (l.drop (k+1)) else 1:=by
 rw[List.drop_eq_getElem_cons h]
 have e:at0 l k=l[k]:=by rw[at0,List.getD_eq_getElem?_getD,List.getElem?_eq_getElem h];rfl
 rw[e];unfold Z6;rw[List.all_cons]
 cases Zx l[k]<;>simp
theorem Xr{l:V9}(h:Z6 l=0)(k:Nat)(hk:k<l.length:=by omega):-1000000<=at0 l k/\at0 l k<=1000000:=by
 have e:at0 l k=l[k]:=by rw[at0,List.getD_eq_getElem?_getD,List.getElem?_eq_getElem hk];rfl
 have a:l.all Zx=true:=by
  unfold Z6 at h;split at h
  . assumption
  . omega
 rw[e];exact U8 (List.all_eq_true.mp a _ (List.getElem_mem hk))
theorem Md(l:V9):Z6 l=0\/Z6 l=1:=by unfold Z6;split<;>simp
def Yg(l:V9):Nat->Bool
 |0=>false
 |n+1=>Yg l n||decide (at0 l (n+1)<=at0 l n)
theorem FY{l:V9}:∀{n:Nat},Yg l n=false->∀k,k<n->at0 l k<at0 l (k+1)
 |0,_,k,hk=>by omega
 |n+1,h,k,hk=>by
  simp only[Yg,Bool.or_eq_false_iff,decide_eq_false_iff_not] at h
  by_cases e:k=n
  . subst e;omega
  . exact FY h.1 k (by omega)
def Yp(l:V9):Int:=if l.length<2 then 3 else if 8<l.length then 2 else if Z6 l=0 then(if Yg l (l.length-1) then 3 else 0) else 1
structure AK (l:V9):Prop where
 lo:2<=l.length
 hi:l.length<=8
 worth:Z6 l=0
 up:∀k,k+1<l.length->at0 l k<at0 l (k+1)
theorem Jcz{l:V9}(h:Yp l=0):AK l:=by
 unfold Yp at h
 split at h
 . omega
 . split at h
   . omega
   . split at h
     . split at h
       . omega
       . exact⟨by omega,by omega,by assumption,fun k hk=>FY (n:=l.length-1) (by cases e:Yg l (l.length-1)<;>simp_all) k (by omega)⟩
     . omega
theorem AK.mono{l:V9}(p:AK l):∀{j k:Nat},j<k->k<l.length->at0 l j<at0 l k:=by
 intro j k ha
 induction k with
 |zero=>omega
 |succ k ih=>
  intro hk;have:=p.up k hk
  by_cases e:j=k
  . subst e;exact this
  . have:=ih (by omega) (by omega);omega
theorem AK.monole{l:V9}(p:AK l){j k:Nat}(h:j<=k)(hk:k<l.length):at0 l j<=at0 l k:=by
 by_cases e:j=k
 . subst e;omega
 . have:=p.mono (show j<k by omega) hk;omega
def Ym(a i:V9):Int:=if a.length=i.length then(if Yp a=0 then Z6 i else Yp a) else 3
theorem I8{a i:V9}(h:Ym a i=0):a.length=i.length/\AK a/\Z6 i=0:=by
 unfold Ym at h
 split at h
 . split at h
   . exact⟨by assumption,Jcz (by assumption),h⟩
   . omega
 . omega
def upI(n d:Int):Int:=(2*n+d)/(2*d)
theorem Jkz(n d:Int)(hd:0<d):upI n d=if d-n%d<=n%d then n/d+1 else n/d:=by
 unfold upI
 have e:=Int.mul_ediv_add_emod n d;have r0:=Int.emod_nonneg n (show d≠0 by omega);have r1:=Int.emod_lt_of_pos n hd
 have:2*n+d=(2*(n%d)+d)+(2*d)*(n/d):=by
  have:2*n=2*(d*(n/d))+2*(n%d):=by omega
  have h:2*(d*(n/d))=2*d*(n/d):=by rw[Int.mul_assoc]
  omega
 rw[this,Int.add_mul_ediv_left _ _ (by omega)]
 split
 . have:(2*(n%d)+d)/(2*d)=1:=by
    have:2*(n%d)+d=(2*(n%d)-d)+(2*d)*1:=by omega
    rw[this,Int.add_mul_ediv_left _ _ (by omega),Int.ediv_eq_zero_of_lt (by omega) (by omega)];rfl
   omega
 . rw[Int.ediv_eq_zero_of_lt (by omega) (by omega)];omega
def CP(n d:Int):Int:=
 if n.tmod d<0 then(if d-(n.tmod d+d)<=n.tmod d+d then n.tdiv d-1+1 else n.tdiv d-1)
 else(if d-n.tmod d<=n.tmod d then n.tdiv d+1 else n.tdiv d)
theorem tdm(n d:Int)(hd:0<d):(n.tmod d<0->n%d=n.tmod d+d/\n/d=n.tdiv d-1)/\(¬n.tmod d<0->n%d=n.tmod d/\n/d=n.tdiv d):=by
 have e:=Int.mul_tdiv_add_tmod n d
 have b:(n.tmod d).natAbs<d.natAbs:=by rw[Int.natAbs_tmod];exact Nat.mod_lt _ (by omega)
 constructor
 . intro h
   have h1:n=(n.tmod d+d)+d*(n.tdiv d-1):=by rw[Int.mul_sub];omega
   constructor
   . conv=>lhs;rw[h1]
     rw[Int.add_mul_emod_self_left,Int.emod_eq_of_lt (by omega) (by omega)]
   . conv=>lhs;rw[h1]
     rw[Int.add_mul_ediv_left _ _ (by omega),Int.ediv_eq_zero_of_lt (by omega) (by omega)];omega
 . intro h
   have h1:n=n.tmod d+d*n.tdiv d:=by omega
   constructor
   . conv=>lhs;rw[h1]
     rw[Int.add_mul_emod_self_left,Int.emod_eq_of_lt (by omega) (by omega)]
   . conv=>lhs;rw[h1]
     rw[Int.add_mul_ediv_left _ _ (by omega),Int.ediv_eq_zero_of_lt (by omega) (by omega)];omega
theorem Jk0(n d:Int)(hd:0<d):CP n d=upI n d:=by
 rw[Jkz n d hd];unfold CP
 by_cases h:n.tmod d<0
 . obtain⟨y,j⟩:=(tdm n d hd).1 h;rw[if_pos h,y,j]
 . obtain⟨y,j⟩:=(tdm n d hd).2 h;rw[if_neg h,y,j]
theorem MI(k d:Int)(hd:0<d):upI (k*d) d=k:=by
 unfold upI
 have:2*(k*d)+d=d+2*d*k:=by rw[Int.mul_assoc,Int.mul_comm d k];omega
 rw[this,Int.add_mul_ediv_left _ _ (by omega),Int.ediv_eq_zero_of_lt (by omega) (by omega)];omega
def ER(l:V9)(c:Int):Nat->Nat->Nat
 |0,i=>i
 |f+1,i=>if i+2<l.length/\at0 l (i+1)<=c then ER l c f (i+1) else i
def Jfm(l:V9)(c:Int):Nat:=ER l c l.length 0
structure B5 (l:V9) (c:Int) (i:Nat):Prop where
 lt:i+1<l.length
 past:at0 l i<=c
 left:c<=at0 l (i+1)
 next:i+2<l.length->c<at0 l (i+1)
theorem Zjq{l:V9}{c:Int}(h1:c<=at0 l (l.length-1)):∀(f i:Nat),l.length<=f+i+2->i+1<l.length->at0 l i<=c->B5 l c (ER l c f i)
 |0,i,j,hi,y=>by
  have e:i+1=l.length-1:=by omega
  exact⟨hi,y,by simp only[ER];rw[e];exact h1,fun h=>by simp only[ER] at h;omega⟩
 |f+1,i,j,hi,y=>by
  simp only[ER]
  split
  . rename_i h;exact Zjq h1 f (i+1) (by omega) (by omega) h.2
  . rename_i h
    by_cases e:i+2<l.length
    . have:¬at0 l (i+1)<=c:=fun q=>h ⟨e,q⟩;exact⟨hi,y,by omega,fun _=>by omega⟩
    . have q:i+1=l.length-1:=by omega
      exact⟨hi,y,by rw[q];exact h1,fun h=>by omega⟩
theorem LG{l:V9}{c:Int}(p:AK l)(h0:at0 l 0<=c)(h1:c<=at0 l (l.length-1)):B5 l c (Jfm l c):=
 Zjq h1 _ 0 (by omega) (by have:=p.lo;omega) h0
theorem B5.unique{l:V9}{c:Int}(p:AK l){i j:Nat}(a:B5 l c i)(b:B5 l c j):i=j:=by
 rcases Nat.lt_trichotomy i j with h|h|h
 . have:=a.next (by have:=b.lt;omega);have:=p.monole (show i+1<=j by omega) (by have:=b.lt;omega);have:=b.past;omega
 . exact h
 . have:=b.next (by have:=a.lt;omega);have:=p.monole (show j+1<=i by omega) (by have:=a.lt;omega);have:=a.past;omega
def R7(x lo hi:Int):Int:=if x<lo then lo else if hi<lo then lo else if hi<x then hi else x
def Z8(l:V9)(x:Int):Int:=R7 x (at0 l 0) (at0 l (l.length-1))
theorem R8{l:V9}(p:AK l)(x:Int):at0 l 0<=Z8 l x/\Z8 l x<=at0 l (l.length-1):=by
 have:=p.mono (show 0<l.length-1 by have:=p.lo;omega) (by have:=p.lo;omega)
 unfold Z8 R7;split<;>(try split)<;>(try split)<;>omega
theorem D8{l:V9}{x:Int}(h0:at0 l 0<=x)(h1:x<=at0 l (l.length-1)):Z8 l x=x:=by
 unfold Z8 R7;rw[if_neg (by omega),if_neg (by omega),if_neg (by omega)]
def X8(a z:V9)(c:Int)(i:Nat):Int:=upI (at0 z i*(at0 a (i+1)-c)+at0 z (i+1)*(c-at0 a i)) (at0 a (i+1)-at0 a i)
def Y7(a z:V9)(x:Int):Int:=X8 a z (Z8 a x) (Jfm a (Z8 a x))
theorem Me{a z:V9}(p:AK a){x:Int}{i:Nat}(s:B5 a (Z8 a x) i):Y7 a z x=X8 a z (Z8 a x) i:=by
 have b:=R8 p x;rw[Y7,(LG p b.1 b.2).unique p s]
theorem R9{a z:V9}{i:Nat}(h:at0 a i<at0 a (i+1)):X8 a z (at0 a i) i=at0 z i:=by
 unfold X8;rw[Int.sub_self,Int.mul_zero,Int.add_zero,MI _ _ (by omega)]
theorem O3{a z:V9}{i:Nat}(h:at0 a i<at0 a (i+1)):X8 a z (at0 a (i+1)) i=at0 z (i+1):=by
 unfold X8;rw[Int.sub_self,Int.mul_zero,Int.zero_add,MI _ _ (by omega)]
theorem IU{a z:V9}(p:AK a)(k:Nat)(hk:k<a.length):Y7 a z (at0 a k)=at0 z k:=by
 have h0:=p.monole (Nat.zero_le k) hk;have h1:=p.monole (show k<=a.length-1 by omega) (by omega);have e:=D8 h0 h1;have y:=p.lo
 by_cases hl:k+1<a.length
 . have s:B5 a (Z8 a (at0 a k)) k:=by
    rw[e];exact⟨hl,by omega,by have:=p.up k hl;omega,fun _=>p.up k hl⟩
   rw[Me p s,e,R9 (p.up k hl)]
 . obtain⟨j,rfl⟩:∃j,k=j+1:=⟨k-1,by omega⟩
   have s:B5 a (Z8 a (at0 a (j+1))) j:=by
    rw[e];exact⟨hk,by have:=p.up j hk;omega,by omega,fun h=>by omega⟩
   rw[Me p s,e,O3 (p.up j hk)]
theorem Jc0{a z:V9}(p:AK a){x:Int}(h:at0 a (a.length-1)<=x):Y7 a z x=at0 z (a.length-1):=by
 have y:=p.lo;have m:=p.mono (show 0<a.length-1 by omega) (by omega)
 have e:Z8 a x=Z8 a (at0 a (a.length-1)):=by
  rw[D8 (l:=a) (x:=at0 a (a.length-1)) (by omega) (by omega)];unfold Z8 R7;split<;>(try split)<;>(try split)<;>omega
 rw[Y7,e,<-Y7,IU p _ (by omega)]
theorem VT{a z:V9}(p:AK a){x:Int}(h:x<=at0 a 0):Y7 a z x=at0 z 0:=by
 have y:=p.lo;have m:=p.mono (show 0<a.length-1 by omega) (by omega)
 have e:Z8 a x=Z8 a (at0 a 0):=by
  rw[D8 (l:=a) (x:=at0 a 0) (by omega) (by omega)];unfold Z8 R7;split<;>(try split)<;>(try split)<;>omega
 rw[Y7,e,<-Y7,IU p _ (by omega)]
theorem Jfn{a z:V9}(p:AK a){x:Int}{i:Nat}(h0:at0 a 0<=x)(h1:x<=at0 a (a.length-1))(s:B5 a x i):Y7 a z x=X8 a z x i:=by
 have e:=D8 h0 h1;rw[Me p (i:=i) (by rw[e];exact s),e]
theorem D9{a b A B:Int}(ha:-A<=a)(ha':a<=A)(h:-B<=b)(hb':b<=B):-(A*B)<=a*b/\a*b<=A*B:=by
 have h1:0<=(A-a)*(B+b):=Int.mul_nonneg (by omega) (by omega);have h2:0<=(A+a)*(B-b):=Int.mul_nonneg (by omega) (by omega);have h3:0<=(A-a)*(B-b):=Int.mul_nonneg (by omega) (by omega);have h4:0<=(A+a)*(B+b):=Int.mul_nonneg (by omega) (by omega);simp only[Int.sub_mul,Int.mul_sub,Int.add_mul,Int.mul_add] at h1 h2 h3 h4
 constructor<;>omega
end Go.Proofs.YtnepnnkdgejheaaGreatDoor.Plain
namespace Go.Proofs.YtnepnnkdgejheaaGreatDoor
open Go.RowKit Plain Tryz
theorem RA(n d:Int)(h0:-4611686018427387904<=n)(h1:n<=4611686018427387904)(d0:0<d)(d1:d<=4000000000000)(w:V6):
 Va 373 #[Vi n,Vi d] w fun e w'=>e=.returned (Vi (upI n d))/\∃k,w'=w.drewN k:=by
 have q:-4611686018427387904<=n.tdiv d/\n.tdiv d<=4611686018427387904:=by
  have h:(n.tdiv d).natAbs<=n.natAbs:=by rw[Int.natAbs_tdiv];exact Nat.div_le_self _ _
  omega
 have r:-4000000000000<=n.tmod d/\n.tmod d<=4000000000000:=by
  have h:(n.tmod d).natAbs<d.natAbs:=by rw[Int.natAbs_tmod];exact Nat.mod_lt _ (by omega)
  omega
 obtain⟨q0,y⟩:=q;obtain⟨r0,r1⟩:=r
 have hd':(d==0)=false:=by simp;omega
 rw[<-Jk0 n d d0]
 by_cases c1:n.tmod d<0
 . by_cases c2:d-(n.tmod d+d)<=n.tmod d+d
   . have e:CP n d=n.tdiv d:=by unfold CP;rw[if_pos c1,if_pos c2];omega
     rw[e];clear e
     go_enter func373,ntmps373
     go_wp2;go_quiet (fail);go_wp2;go_ret;exact⟨rfl,_,rfl⟩
   . have e:CP n d=n.tdiv d-1:=by unfold CP;rw[if_pos c1,if_neg c2]
     rw[e];clear e
     go_enter func373,ntmps373
     go_wp2;go_quiet (fail);go_wp2;go_ret;exact⟨rfl,_,rfl⟩
 . by_cases c2:d-n.tmod d<=n.tmod d
   . have e:CP n d=n.tdiv d+1:=by unfold CP;rw[if_neg c1,if_pos c2]
     rw[e];clear e
     go_enter func373,ntmps373
     go_wp2;go_quiet (fail);go_wp2;go_ret;exact⟨rfl,_,rfl⟩
   . have e:CP n d=n.tdiv d:=by unfold CP;rw[if_neg c1,if_neg c2]
     rw[e];clear e
     go_enter func373,ntmps373
     go_wp2;go_quiet (fail);go_wp2;go_ret;exact⟨rfl,_,rfl⟩
theorem Jfo(n d:Int)(d0:0<d)(d1:d<=8000000000000)(w:V6):
 Va 232 #[Vi n,Vi d] w (Re w (Vi (n%d))):=by
 have r:-8000000000000<=n.tmod d/\n.tmod d<=8000000000000:=by
  have h:(n.tmod d).natAbs<d.natAbs:=by rw[Int.natAbs_tmod];exact Nat.mod_lt _ (by omega)
  omega
 obtain⟨r0,r1⟩:=r
 have hd':(d==0)=false:=by simp;omega
 by_cases c1:n.tmod d<0
 . rw[((tdm n d d0).1 c1).1]
   go_enter func232,ntmps232
   go_wp2;go_ret;exact⟨rfl,rfl⟩
 . rw[((tdm n d d0).2 c1).1]
   go_enter func232,ntmps232
   go_wp2;go_ret;exact⟨rfl,rfl⟩
theorem Jfp(n d:Int)(d0:0<d):(n-n%d).tdiv d=n/d:=by
 have e:=Int.mul_ediv_add_emod n d
 have:n-n%d=(n/d)*d:=by rw[Int.mul_comm];omega
 rw[this,Int.mul_tdiv_cancel _ (by omega)]
theorem RC(n d:Int)(h0:-9200000000000000000<=n)(h1:n<=9200000000000000000)(d0:0<d)(d1:d<=8000000000000)(w:V6):
 Va 182 #[Vi n,Vi d] w (Re w (Vi (n/d))):=by
 have hd':(d==0)=false:=by simp;omega
 have m0:=Int.emod_nonneg n (show d≠0 by omega);have m1:=Int.emod_lt_of_pos n d0;rw[<-Jfp n d d0]
 have q:-9223372036854775807<=(n-n%d).tdiv d/\(n-n%d).tdiv d<=9223372036854775807:=by
  have h:((n-n%d).tdiv d).natAbs<=(n-n%d).natAbs:=by rw[Int.natAbs_tdiv];exact Nat.div_le_self _ _
  omega
 obtain⟨q0,y⟩:=q
 go_enter func182,ntmps182
 go_wp2_with (go_at_call 232;refine Sm (Jfo _ _ d0 d1 _) ?_);go_ret;exact⟨rfl,rfl⟩
theorem Jok(n d:Int)(h0:-4500000000000000000<=n)(h1:n<=4500000000000000000)(d0:0<d)(d1:d<=4000000000000)(w:V6):
 Va 234 #[Vi n,Vi d] w (Re w (Vi (upI n d))):=by
 unfold upI
 go_enter func234,ntmps234
 go_wp2_with (go_at_call 182;refine Sm (RC _ _ (by omega) (by omega) (by omega) (by omega) _) ?_);go_ret;exact⟨rfl,rfl⟩
theorem Yr(e:Int)(w:V6):Va 4 #[.bool true,Vi e] w (Re w (Vi e)):=by
 go_enter func4,ntmps4
 go_wp2;go_ret;exact⟨rfl,rfl⟩
theorem X0(e:Int)(w:V6):Va 4 #[.bool false,Vi e] w (Re w (Vi 0)):=by
 go_enter func4,ntmps4
 go_wp2;go_ret;exact⟨rfl,rfl⟩
theorem Ur(b:Bool)(e:Int)(w:V6):Va 4 #[.bool b,Vi e] w (Re w (Vi (if b then e else 0))):=by
 cases b
 . exact X0 e w
 . exact Yr e w
theorem IV(b:Bool)(e:Int)(w:V6):Va 4 #[.bool b,Vi e] w fun r w'=>∃x,r=.returned (Vi x)/\Hd (x=if b then e else 0)/\w'=w:=
 (Ur b e w).mono fun _ _ ⟨h1,h2⟩=>⟨_,h1,rfl,h2⟩
def A8(e:Int):Value:=if e=0 then .nilIface else .iface 22 (Vi e)
theorem Z0:A8 0=.nilIface:=rfl
theorem Zv{e:Int}(h:e≠0):A8 e=.iface 22 (Vi e):=by unfold A8;rw[if_neg h]
theorem Jfq(w:V6):Va 16 #[.nilIface] w (Re w (Vi 0)):=by
 go_enter func16,ntmps16
 go_wp2;go_ret;exact⟨rfl,rfl⟩
theorem Jfr(v:Value)(w:V6):(Instr.typeAssert (.iface 22 v) 27 22 true).run prog w=.ok (.tuple #[v,.bool true]) w:=by kernel_rfl
theorem VU(x:Int)(w:V6):Va 16 #[.iface 22 (Vi x)] w (Re w (Vi x)):=by
 have h:=Jfr (Vi x)
 go_enter func16,ntmps16
 go_wp2;go_ret;exact⟨rfl,rfl⟩
theorem Jfs(x:Int)(w:V6):Va 16 #[A8 x] w (Re w (Vi x)):=by
 by_cases h:x=0
 . subst h;exact Jfq w
 . rw[Zv h];exact VU x w
theorem Jft(x e:Int)(w:V6):Va 7 #[A8 x,Vi e] w (Re w (.bool (x==e))):=by
 go_enter func7,ntmps7
 go_wp2_with (go_at_call 16;refine Sm (Jfs _ _) ?_);go_ret;exact⟨rfl,rfl⟩
theorem Nr(x lo hi:Int)(w:V6):
 Va 22 #[Vi x,Vi lo,Vi hi] w (Re w (.bool (decide (lo<=x)&&decide (x<=hi)))):=by
 by_cases g1:lo<=x
 . by_cases g2:x<=hi
   . rw[decide_eq_true g1,decide_eq_true g2]
     go_enter func22,ntmps22
     go_wp2;go_ret;exact⟨rfl,rfl⟩
   . rw[decide_eq_true g1,decide_eq_false g2]
     go_enter func22,ntmps22
     go_wp2;go_ret;exact⟨by simp,rfl⟩
 . rw[decide_eq_false g1]
   go_enter func22,ntmps22
   go_wp2;go_ret;exact⟨rfl,rfl⟩
theorem Zkj(x:Int)(w:V6):
 Va 22 #[Vi x,Vi (-1000000),Vi 1000000] w (Re w (.bool (Zx x))):=Nr x _ _ w
theorem DB(x:Int)(w:V6):
 Va 276 #[Vi x] w (Re w (.bool (!Zx x))):=by
 by_cases g1:1000000<x
 . have e:Zx x=false:=by simp[Zx];omega
   rw[e]
   go_enter func276,ntmps276
   go_wp2;go_ret;exact⟨rfl,rfl⟩
 . by_cases g2:x< -1000000
   . have e:Zx x=false:=by simp[Zx];omega
     rw[e]
     go_enter func276,ntmps276
     go_wp2;go_ret;exact⟨by simp,rfl⟩
   . have e:Zx x=true:=by simp[Zx];omega
     rw[e]
     go_enter func276,ntmps276
     go_wp2;go_ret;exact⟨by simp,rfl⟩
theorem O4(x:Int)(w:V6):Va 299 #[Vi x] w (Re w (.bool false)):=by
 have e:(x != x)=false:=by simp
 go_enter func299,ntmps299
 go_wp2;go_ret;exact⟨by simp,rfl⟩
def Zk:List Int->Int
 |[]=>0
 |x::l=>if x=0 then Zk l else x
theorem VV(zs:V9)(k:Nat)(h:k<zs.length):Zk (zs.drop k)=if zs.getD k 0=0 then Zk (zs.drop (k+1)) else zs.getD k 0:=by
 rw[List.drop_eq_getElem_cons h,List.getD_eq_getElem?_getD,List.getElem?_eq_getElem h];rfl
theorem ES(b off cap:Nat)(zs:V9)(w:V6)(m:zs.length<=9223372036854775807)(hc:∀k,k<zs.length->V2 w b (off+k) (zs.getD k 0)):
 Va 45 #[Vf b off zs.length cap] w (Re w (Vi (Zk zs))):=by
 have j:Hd (∀k,k<zs.length->V2 w b (off+k) (zs.getD k 0)):=hc;clear hc
 go_enter func45,ntmps45
 go_wp2
 go_loop [3] (fun i=>∃k:Nat,k<=zs.length/\i=Vi k/\Hd (Zk zs=Zk (zs.drop k))) (fun i=>zs.length-(intOf i).toNat)
 case atStart=>exact⟨0,Nat.zero_le _,rfl,by show Zk zs=Zk (zs.drop 0);rw[List.drop_zero]⟩
 case round=>
  obtain⟨k,hk,rfl,h⟩:=hrel
  by_cases hlt:k<zs.length
  . have ha:=j.o k hlt;have hs:=VV zs k hlt;generalize zs.getD k 0=z at ha hs
    by_cases hz:z=0
    . subst hz;rw[if_pos rfl] at hs;have y:Hd (Zk zs=Zk (zs.drop (k+1))):=h.o.trans hs;clear hs h;go_wp2
      go_round
      case rel=>exact⟨k+1,by omega,by go_num,y⟩
      case measure=>simp[intOf];omega
    . rw[if_neg hz] at hs;have y:Hd (Zk zs=z):=h.o.trans hs;clear hs h
      have hz':(z != 0)=true:=by simpa using hz
      clear hz;go_wp2;go_ret;exact⟨by rw[y.o];rfl,rfl⟩
  . go_wp2;go_ret
    have:k=zs.length:=by omega
    subst this;exact⟨by rw[h.o,List.drop_length];rfl,rfl⟩
theorem ET(b cap:Nat)(x y:Int)(w:V6)(h0:V2 w b 0 x)(h1:V2 w b 1 y):
 Va 45 #[Vf b 0 2 cap] w (Re w (Vi (Zk [x,y]))):=by
 refine ES b 0 cap [x,y] w (by simp) ?_;intro k hk;simp only[List.length_cons,List.length_nil] at hk
 match k,hk with
 |0,_=>exact h0
 |1,_=>exact h1
theorem Ns(b cap:Nat)(x y z:Int)(w:V6)(h0:V2 w b 0 x)(h1:V2 w b 1 y)(h2:V2 w b 2 z):
 Va 45 #[Vf b 0 3 cap] w (Re w (Vi (Zk [x,y,z]))):=by
 refine ES b 0 cap [x,y,z] w (by simp) ?_;intro k hk;simp only[List.length_cons,List.length_nil] at hk
 match k,hk with
 |0,_=>exact h0
 |1,_=>exact h1
 |2,_=>exact h2
theorem VW(b cap:Nat)(x y z u:Int)(w:V6)(h0:V2 w b 0 x)(h1:V2 w b 1 y)(h2:V2 w b 2 z)(h3:V2 w b 3 u):
 Va 45 #[Vf b 0 4 cap] w (Re w (Vi (Zk [x,y,z,u]))):=by
 refine ES b 0 cap [x,y,z,u] w (by simp) ?_;intro k hk;simp only[List.length_cons,List.length_nil] at hk
 match k,hk with
 |0,_=>exact h0
 |1,_=>exact h1
 |2,_=>exact h2
 |3,_=>exact h3
theorem IW(T:TypeId)(x y:Int)(w:V6):
 Va 45 #[Vf w.heap.size 0 2 2] (w.alloc (.cells #[Vi x,Vi y] T)) fun r w'=>r=.returned (Vi (Zk [x,y]))/\w'=w.alloc (.cells #[Vi x,Vi y] T):=
 ET _ _ x y _ (by simp[go_sem]) (by simp[go_sem])
theorem IX(T:TypeId)(x y z:Int)(w:V6):
 Va 45 #[Vf w.heap.size 0 3 3] (w.alloc (.cells #[Vi x,Vi y,Vi z] T)) fun r w'=>r=.returned (Vi (Zk [x,y,z]))/\w'=w.alloc (.cells #[Vi x,Vi y,Vi z] T):=
 Ns _ _ x y z _ (by simp[go_sem]) (by simp[go_sem]) (by simp[go_sem])
theorem VX(T:TypeId)(x y z u:Int)(w:V6):
 Va 45 #[Vf w.heap.size 0 4 4] (w.alloc (.cells #[Vi x,Vi y,Vi z,Vi u] T)) fun r w'=>r=.returned (Vi (Zk [x,y,z,u]))/\w'=w.alloc (.cells #[Vi x,Vi y,Vi z,Vi u] T):=
 VW _ _ x y z u _ (by simp[go_sem]) (by simp[go_sem]) (by simp[go_sem]) (by simp[go_sem])
theorem Nx(x:Int)(w:V6)(h1:-4611686018427387904<=x:=by omega)(h2:x<=4611686018427387904:=by omega):Va 374 #[Vi x] w (Re w (Vi (max x (-x)))):=by
 by_cases h:x<0
 . have e:max x (-x)=-x:=by omega
   rw[e]
   have g:x< -x:=by omega
   go_enter func374,ntmps374
   go_wp2;go_ret;exact⟨rfl,rfl⟩
 . have e:max x (-x)=x:=by omega
   rw[e]
   have g:¬x< -x:=by omega
   go_enter func374,ntmps374
   go_wp2;go_ret;exact⟨rfl,rfl⟩
theorem G7(n d:Int)(h0:0<=n)(h1:n<=4611686014132420609)(d0:0<d)(d1:d<=2147483647)(w:V6):
 Va 274 #[Vi n,Vi d] w (Re w (Vi (Y5 n d))):=by
 have e:Y5 n d=(2*n+d)/(2*d):=by unfold Y5;rw[if_neg (by omega)]
 rw[e];clear e
 have hn:¬n<0:=by omega
 go_enter func274,ntmps274
 go_wp2;go_ret;exact⟨rfl,rfl⟩
theorem OH(n d:Int)(h0:-4611686014132420609<=n)(h1:n<=4611686014132420609)(d0:-2147483647<=d)(d1:d<=2147483647)(hd:d≠0)(w:V6):
 Va 361 #[Vi n,Vi d] w fun e w'=>e=.returned (Vi (Y6 n d))/\w'=w.drew:=by
 have q:=O2 n d 4611686014132420609 h0 h1;have r:=Jky n d 2147483647 hd d0 d1;obtain⟨q0,h⟩:=q;obtain⟨r0,r1⟩:=r
 have hd':(d==0)=false:=by simpa using hd
 by_cases c1:2*max (n.tmod d) (-(n.tmod d))<max d (-d)
 . have e:Y6 n d=n.tdiv d:=by unfold Y6;rw[if_pos c1]
   rw[e];clear e
   go_enter func361,ntmps361
   go_wp2
   go_region
   go_wp2_with (go_at_call 374;refine Sm (Nx _ _) ?_);go_ret;exact⟨rfl,rfl⟩
 . by_cases c2:n<0
   . by_cases c3:d<0
     . have e:Y6 n d=n.tdiv d+1:=by unfold Y6;rw[if_neg c1,decide_eq_true c2,decide_eq_true c3];rfl
       rw[e];clear e
       go_enter func361,ntmps361
       go_wp2
       go_region
       go_wp2_with (go_at_call 374;refine Sm (Nx _ _) ?_);go_ret;exact⟨rfl,rfl⟩
     . have e:Y6 n d=n.tdiv d-1:=by unfold Y6;rw[if_neg c1,decide_eq_true c2,decide_eq_false c3];rfl
       rw[e];clear e;have c3':decide (d<0)=false:=decide_eq_false c3
       go_enter func361,ntmps361
       go_wp2
       go_region
       go_wp2_with (go_at_call 374;refine Sm (Nx _ _) ?_);go_ret;exact⟨rfl,rfl⟩
   . by_cases c3:d<0
     . have e:Y6 n d=n.tdiv d-1:=by unfold Y6;rw[if_neg c1,decide_eq_false c2,decide_eq_true c3];rfl
       rw[e];clear e;have c2':decide (n<0)=false:=decide_eq_false c2
       have hn:0<=n:=by omega
       rw[Int.tmod_eq_emod_of_nonneg hn] at c1 r0 r1
       go_enter func361,ntmps361
       go_wp2
       go_region
       go_wp2_with (go_at_call 374;refine Sm (Nx _ _) ?_);go_ret;exact⟨rfl,rfl⟩
     . have e:Y6 n d=n.tdiv d+1:=by unfold Y6;rw[if_neg c1,decide_eq_false c2,decide_eq_false c3];rfl
       rw[e];clear e;have c2':decide (n<0)=false:=decide_eq_false c2;have c3':decide (d<0)=false:=decide_eq_false c3
       have hn:0<=n:=by omega
       rw[Int.tmod_eq_emod_of_nonneg hn] at c1 r0 r1;rw[Int.tdiv_eq_ediv_of_nonneg hn] at q0 h|-
       go_enter func361,ntmps361
       go_wp2
       go_region
       go_wp2_with (go_at_call 374;refine Sm (Nx _ _) ?_);go_ret;exact⟨rfl,rfl⟩
theorem S9(n d:Int)(h0:-4611686014132420609<=n)(h1:n<=4611686014132420609)(d0:0<d)(d1:d<=2147483647)(w:V6):
 Va 274 #[Vi n,Vi d] w (Re w (Vi (Y5 n d))):=by
 by_cases hn:n<0
 . have bd:=Jfl (n:=-n) (d:=d) (B:=4611686014132420609) d0 (by omega) (by omega);obtain⟨h,y⟩:=bd
   have e:Y5 n d=-Y5 (-n) d:=by rw[EQ n d d0];omega
   rw[e];clear e
   go_enter func274,ntmps274
   go_wp2_with (go_at_call 274;refine Sm (G7 _ _ (by omega) (by omega) d0 d1 _) ?_);go_ret;exact⟨rfl,rfl⟩
 . exact G7 n d (by omega) h1 d0 d1 w
theorem JF(a b:Int)(w:V6):Va 351 #[Vi a,Vi b] w fun e w'=>e=.returned (Vi (IS a b))/\w'=w.drew:=by
 have m:=Jfi (IQ a) (IR a) (IQ b) (IR b);obtain⟨m0,m1⟩:=m;rw[<-Jfk]
 go_enter func351,ntmps351
 go_wp2_with (first
  |(go_at_call 360;refine Sm (Jcx _ _) ?_)
  |(go_at_call 361;refine Sm (OH _ _ (by omega) (by omega) (by omega) (by omega) (by omega) _) ?_))
 go_ret;exact⟨rfl,rfl⟩
theorem JG(a b:Int)(w:V6):Va 233 #[Vi a,Vi b] w (Re w (Vi (IS a b))):=by
 have m:=Jfi (IQ a) (IR a) (IQ b) (IR b);obtain⟨m0,m1⟩:=m
 unfold IS
 go_enter func233,ntmps233
 go_wp2_with (first
  |(go_at_call 273;refine Sm (Jcy _ _) ?_)
  |(go_at_call 274;refine Sm (S9 _ _ (by omega) (by omega) (by omega) (by omega) _) ?_))
 go_ret;exact⟨rfl,rfl⟩
end Go.Proofs.YtnepnnkdgejheaaGreatDoor
