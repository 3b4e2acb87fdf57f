import Derived.Test.YtnfdfiholcelaaaGreatDoorProg
import Derived.WalkLawsBesides
import Derived.WalkSpells
import Derived.ProofKit
import Derived.Outline
import Derived.RegionTactic
import Derived.ChangeAlike
import Derived.Deep.QuietTactic
import Derived.BigQuiet
import Derived.Deep.CutRange
import Derived.Deep.DeepCutAuto
import Derived.BigRegion
import Derived.Test.YtnfdfiholcelaaaGreatDoorJp00
set_option maxRecDepth 100000
set_option maxHeartbeats 20000000
namespace Go.Proofs.YtnfdfiholcelaaaGreatDoor.Plain
def ofI(x:Int):Int:=if x< -2147483647 then -2147483647 else if 2147483647<x then 2147483647 else x
theorem ofI_lo(x:Int):-2147483647≤ofI x:=by unfold ofI;split<;>(try split)<;>omega
theorem ofI_hi(x:Int):ofI x≤2147483647:=by unfold ofI;split<;>(try split)<;>omega
theorem mul_bd{a b:Int}(ha:-2147483647≤a)(ha':a≤2147483647)(hb:-2147483647≤b)(hb':b≤2147483647):-4611686014132420609≤a*b∧a*b≤4611686014132420609:=by
 have h1:0≤(2147483647-a)*(2147483647+b):=Int.mul_nonneg (by omega) (by omega);have h2:0≤(2147483647+a)*(2147483647-b):=Int.mul_nonneg (by omega) (by omega);have h3:0≤(2147483647-a)*(2147483647-b):=Int.mul_nonneg (by omega) (by omega);have h4:0≤(2147483647+a)*(2147483647+b):=Int.mul_nonneg (by omega) (by omega);simp only[Int.sub_mul,Int.mul_sub,Int.add_mul,Int.mul_add] at h1 h2 h3 h4
 constructor<;>omega
def Yx(n d:Int):Int:=if n<0 then -((2*(-n)+d)/(2*d)) else(2*n+d)/(2*d)
theorem awayI_neg(n d:Int)(h:0<d):Yx (-n) d=-Yx n d:=by
 unfold Yx
 rcases Int.lt_trichotomy n 0 with h0|h0|h0
 · rw[if_neg (by omega),if_pos h0];omega
 · subst h0;have e:(2*0+d)/(2*d)=0:=Int.ediv_eq_zero_of_lt (by omega) (by omega);simp only[Int.neg_zero,Int.lt_irrefl,if_false];rw[e];rfl
 · rw[if_pos (by omega),if_neg (by omega)];simp
theorem away_div(n d:Int)(hd:0<d)(_hn:0≤n):(2*n+d)/(2*d)=if 2*(n%d)<d then n/d else n/d+1:=by
 have e:=Int.mul_ediv_add_emod n d;have r0:=Int.emod_nonneg n (show d≠0 by omega);have r1:=Int.emod_lt_of_pos n hd
 have:2*n+d=(2*(n%d)+d)+(2*d)*(n/d):=by
  have:2*n=2*(d*(n/d))+2*(n%d):=by omega
  have e2:2*(d*(n/d))=2*d*(n/d):=by rw[Int.mul_assoc]
  omega
 rw[this,Int.add_mul_ediv_left _ _ (by omega)]
 split
 · rw[Int.ediv_eq_zero_of_lt (by omega) (by omega)];omega
 · have:(2*(n%d)+d)/(2*d)=1:=by
    have:2*(n%d)+d=(2*(n%d)-d)+(2*d)*1:=by omega
    rw[this,Int.add_mul_ediv_left _ _ (by omega),Int.ediv_eq_zero_of_lt (by omega) (by omega)];rfl
   omega
theorem awayI_nonneg{n d:Int}(hd:0<d)(hn:0≤n):0≤Yx n d:=by
 unfold Yx;rw[if_neg (by omega)];exact Int.ediv_nonneg (by omega) (by omega)
theorem awayI_le{n d:Int}(hd:0<d)(hn:0≤n):Yx n d≤n:=by
 unfold Yx;rw[if_neg (by omega),away_div n d hd hn]
 have e:=Int.mul_ediv_add_emod n d;have r0:=Int.emod_nonneg n (show d≠0 by omega);have q0:0≤n/d:=Int.ediv_nonneg hn (by omega)
 have m:n/d≤d*(n/d):=by
  have:0≤(d-1)*(n/d):=Int.mul_nonneg (by omega) q0;rw[Int.sub_mul] at this;omega
 split<;>omega
def Yy(n d:Int):Int:=if 2*max (n.tmod d) (-(n.tmod d))<max d (-d) then n.tdiv d else if(decide (n<0) != decide (d<0))=true then n.tdiv d-1 else n.tdiv d+1
theorem near_pos(n d:Int)(hd:0<d)(hn:0≤n):Yy n d=Yx n d:=by
 unfold Yy Yx
 rw[if_neg (show ¬n<0 by omega),away_div n d hd hn,Int.tmod_eq_emod_of_nonneg hn,Int.tdiv_eq_ediv_of_nonneg hn];have r0:=Int.emod_nonneg n (show d≠0 by omega)
 have e1:max (n%d) (-(n%d))=n%d:=by omega
 have e2:max d (-d)=d:=by omega
 rw[e1,e2]
 split
 · rfl
 · rw[if_neg];simp;omega
theorem near_neg(n d:Int)(hd:0<d):Yy (-n) d=-Yy n d:=by
 by_cases h:n=0
 · subst h;unfold Yy;simp;omega
 · unfold Yy
   rw[Int.neg_tmod,Int.neg_tdiv]
   have e1:max (-(n.tmod d)) (- -(n.tmod d))=max (n.tmod d) (-(n.tmod d)):=by omega
   rw[e1]
   by_cases hn:n<0
   · have h1:decide (-n<0)=false:=by simp;omega
     have h2:decide (n<0)=true:=by simp;omega
     have h3:decide (d<0)=false:=by simp;omega
     rw[h1,h2,h3];split
     · rfl
     · simp;omega
   · have h1:decide (-n<0)=true:=by simp;omega
     have h2:decide (n<0)=false:=by simp;omega
     have h3:decide (d<0)=false:=by simp;omega
     rw[h1,h2,h3];split
     · rfl
     · simp;omega
theorem near_away(n d:Int)(hd:0<d):Yy n d=Yx n d:=by
 by_cases hn:0≤n
 · exact near_pos n d hd hn
 · have:=near_pos (-n) d hd (by omega);rw[near_neg n d hd,awayI_neg n d hd] at this;omega
def mulI(a b:Int):Int:=ofI (Yx (ofI a*ofI b) 256)
theorem mul_near(a b:Int):ofI (Yy (ofI a*ofI b) 256)=mulI a b:=by unfold mulI;rw[near_away _ _ (by omega)]
theorem tdiv_bd(n d B:Int)(h1:-B≤n)(h2:n≤B):-B≤n.tdiv d∧n.tdiv d≤B:=by
 have h:(n.tdiv d).natAbs≤n.natAbs:=by rw[Int.natAbs_tdiv];exact Nat.div_le_self _ _
 omega
theorem tmod_bd(n d B:Int)(hd:d≠0)(h1:-B≤d)(h2:d≤B):-B≤n.tmod d∧n.tmod d≤B:=by
 have h:(n.tmod d).natAbs<d.natAbs:=by rw[Int.natAbs_tmod];exact Nat.mod_lt _ (by omega)
 omega
theorem awayI_bd{n d B:Int}(hd:0<d)(h1:-B≤n)(h2:n≤B):-B≤Yx n d∧Yx n d≤B:=by
 by_cases hn:0≤n
 · have:=awayI_nonneg hd hn;have:=awayI_le hd hn;omega
 · have a:=awayI_nonneg (n:=-n) hd (by omega);have b:=awayI_le (n:=-n) hd (by omega);rw[awayI_neg n d hd] at a b;omega
end Go.Proofs.YtnfdfiholcelaaaGreatDoor.Plain
namespace Go.Proofs.YtnfdfiholcelaaaGreatDoor
open Go.RowKit Plain Tryz
def Ze(x lo hi:Int):Int:=if x<lo then lo else if hi<lo then lo else if hi<x then hi else x
theorem Yu(x lo hi:Int)(w:World):Calls prog 172 #[Vi x,Vi lo,Vi hi] w (Re w (Vi (Ze x lo hi))):=by
 unfold Ze
 by_cases h1:x<lo
 · rw[if_pos h1]
   go_enter func172,ntmps172
   go_wp2;go_ret;exact⟨rfl,rfl⟩
 · rw[if_neg h1]
   by_cases h2:hi<lo
   · rw[if_pos h2]
     go_enter func172,ntmps172
     go_wp2;go_ret;exact⟨rfl,rfl⟩
   · rw[if_neg h2]
     by_cases h3:hi<x
     · rw[if_pos h3]
       go_enter func172,ntmps172
       go_wp2;go_ret;exact⟨rfl,rfl⟩
     · rw[if_neg h3]
       go_enter func172,ntmps172
       go_wp2;go_ret;exact⟨rfl,rfl⟩
theorem Yr(x lo hi:Int)(h:lo≤hi)(w:World):Calls prog 94 #[Vi x,Vi lo,Vi hi] w (Re w (Vi (Ze x lo hi))):=by
 unfold Ze
 by_cases h1:x<lo
 · rw[if_pos h1]
   by_cases h3:hi<lo
   · omega
   · go_enter func94,ntmps94
     go_wp2;go_ret;exact⟨rfl,rfl⟩
 · rw[if_neg h1,if_neg (show ¬hi<lo by omega)]
   by_cases h3:hi<x
   · rw[if_pos h3]
     go_enter func94,ntmps94
     go_wp2;go_ret;exact⟨rfl,rfl⟩
   · rw[if_neg h3]
     go_enter func94,ntmps94
     go_wp2;go_ret;exact⟨rfl,rfl⟩
theorem clip_of(x:Int):Ze x (-2147483647) 2147483647=ofI x:=by
 unfold Ze ofI;rw[if_neg (show ¬((2147483647:Int)< -2147483647) by omega)]
theorem fixOf_any(x:Int)(w:World):Calls prog 137 #[Vi x] w (Re w (Vi (ofI x))):=by
 go_enter func137,ntmps137
 go_wp2_with (go_at_call 172;refine(Yu _ _ _ _).mono ?_;rintro e w' ⟨rfl,rfl⟩);go_ret;rw[clip_of];exact⟨rfl,rfl⟩
theorem refOf_any(x:Int)(w:World):Calls prog 233 #[Vi x] w (Re w (Vi (ofI x))):=by
 go_enter func233,ntmps233
 go_wp2_with (go_at_call 94;refine(Yr _ _ _ (by omega) _).mono ?_;rintro e w' ⟨rfl,rfl⟩);go_ret;rw[clip_of];exact⟨rfl,rfl⟩
end Go.Proofs.YtnfdfiholcelaaaGreatDoor
namespace Go.Proofs.YtnfdfiholcelaaaGreatDoor.Plain
def at0(l:List Int)(k:Nat):Int:=l.getD k 0
def Zu(x:Int):Bool:=decide (-1000000≤x)&&decide (x≤1000000)
theorem Ug{x:Int}(h:Zu x=true):-1000000≤x∧x≤1000000:=by simp[Zu] at h;omega
def Zw(l:List Int):Int:=if l.all Zu then 0 else 1
theorem worth_step(l:List Int)(k:Nat)(h:k<l.length):Zw (l.drop k)=if Zu (at0 l k) then Zw (l.drop (k+1)) else 1:=by
 rw[List.drop_eq_getElem_cons h]
 have e:at0 l k=l[k]:=by rw[at0,List.getD_eq_getElem?_getD,List.getElem?_eq_getElem h];rfl
 rw[e];unfold Zw;rw[List.all_cons]
 cases Zu l[k]<;>simp
theorem Xi{l:List Int}(h:Zw l=0)(k:Nat)(hk:k<l.length):-1000000≤at0 l k∧at0 l k≤1000000:=by
 have e:at0 l k=l[k]:=by rw[at0,List.getD_eq_getElem?_getD,List.getElem?_eq_getElem hk];rfl
 have a:l.all Zu=true:=by
  unfold Zw at h;split at h
  · assumption
  · omega
 rw[e];exact Ug (List.all_eq_true.mp a _ (List.getElem_mem hk))
theorem Nj(l:List Int):Zw l=0∨Zw l=1:=by unfold Zw;split<;>simp
def Z6(l:List Int):Nat→Bool
 |0=>false
 |n+1=>Z6 l n||decide (at0 l (n+1)≤at0 l n)
theorem falls_of_lt{l:List Int}:∀{n:Nat},Z6 l n=false→∀k,k<n→at0 l k<at0 l (k+1)
 |0,_,k,hk=>by omega
 |n+1,h,k,hk=>by
  simp only[Z6,Bool.or_eq_false_iff,decide_eq_false_iff_not] at h
  by_cases e:k=n
  · subst e;omega
  · exact falls_of_lt h.1 k (by omega)
def Yl(l:List Int):Int:=if l.length<2 then 3 else if 8<l.length then 2 else if Zw l=0 then(if Z6 l (l.length-1) then 3 else 0) else 1
structure Places (l:List Int):Prop where
 lo:2≤l.length
 hi:l.length≤8
 worth:Zw l=0
 up:∀k,k+1<l.length→at0 l k<at0 l (k+1)
theorem places_of{l:List Int}(h:Yl l=0):Places l:=by
 unfold Yl at h
 split at h
 · omega
 · split at h
   · omega
   · split at h
     · split at h
       · omega
       · exact⟨by omega,by omega,by assumption,fun k hk=>falls_of_lt (n:=l.length-1) (by cases e:Z6 l (l.length-1)<;>simp_all) k (by omega)⟩
     · omega
theorem Places.mono{l:List Int}(p:Places l):∀{j k:Nat},j<k→k<l.length→at0 l j<at0 l k:=by
 intro j k hjk
 induction k with
 |zero=>omega
 |succ k ih=>
  intro hk;have:=p.up k hk
  by_cases e:j=k
  · subst e;exact this
  · have:=ih (by omega) (by omega);omega
theorem Places.monole{l:List Int}(p:Places l){j k:Nat}(h:j≤k)(hk:k<l.length):at0 l j≤at0 l k:=by
 by_cases e:j=k
 · subst e;omega
 · have:=p.mono (show j<k by omega) hk;omega
def Ye(a i:List Int):Int:=if a.length=i.length then(if Yl a=0 then Zw i else Yl a) else 3
theorem line_of{a i:List Int}(h:Ye a i=0):a.length=i.length∧Places a∧Zw i=0:=by
 unfold Ye at h
 split at h
 · split at h
   · exact⟨by assumption,places_of (by assumption),h⟩
   · omega
 · omega
def upI(n d:Int):Int:=(2*n+d)/(2*d)
theorem upI_rem(n d:Int)(hd:0<d):upI n d=if d-n%d≤n%d then n/d+1 else n/d:=by
 unfold upI
 have e:=Int.mul_ediv_add_emod n d;have r0:=Int.emod_nonneg n (show d≠0 by omega);have r1:=Int.emod_lt_of_pos n hd
 have:2*n+d=(2*(n%d)+d)+(2*d)*(n/d):=by
  have:2*n=2*(d*(n/d))+2*(n%d):=by omega
  have e2:2*(d*(n/d))=2*d*(n/d):=by rw[Int.mul_assoc]
  omega
 rw[this,Int.add_mul_ediv_left _ _ (by omega)]
 split
 · have:(2*(n%d)+d)/(2*d)=1:=by
    have:2*(n%d)+d=(2*(n%d)-d)+(2*d)*1:=by omega
    rw[this,Int.add_mul_ediv_left _ _ (by omega),Int.ediv_eq_zero_of_lt (by omega) (by omega)];rfl
   omega
 · rw[Int.ediv_eq_zero_of_lt (by omega) (by omega)];omega
def nearT(n d:Int):Int:=
 if n.tmod d<0 then(if d-(n.tmod d+d)≤n.tmod d+d then n.tdiv d-1+1 else n.tdiv d-1)
 else(if d-n.tmod d≤n.tmod d then n.tdiv d+1 else n.tdiv d)
theorem tdm(n d:Int)(hd:0<d):(n.tmod d<0→n%d=n.tmod d+d∧n/d=n.tdiv d-1)∧(¬n.tmod d<0→n%d=n.tmod d∧n/d=n.tdiv d):=by
 have e:=Int.mul_tdiv_add_tmod n d
 have b:(n.tmod d).natAbs<d.natAbs:=by rw[Int.natAbs_tmod];exact Nat.mod_lt _ (by omega)
 constructor
 · intro h
   have h1:n=(n.tmod d+d)+d*(n.tdiv d-1):=by rw[Int.mul_sub];omega
   constructor
   · conv=>lhs;rw[h1]
     rw[Int.add_mul_emod_self_left,Int.emod_eq_of_lt (by omega) (by omega)]
   · conv=>lhs;rw[h1]
     rw[Int.add_mul_ediv_left _ _ (by omega),Int.ediv_eq_zero_of_lt (by omega) (by omega)];omega
 · intro h
   have h1:n=n.tmod d+d*n.tdiv d:=by omega
   constructor
   · conv=>lhs;rw[h1]
     rw[Int.add_mul_emod_self_left,Int.emod_eq_of_lt (by omega) (by omega)]
   · conv=>lhs;rw[h1]
     rw[Int.add_mul_ediv_left _ _ (by omega),Int.ediv_eq_zero_of_lt (by omega) (by omega)];omega
theorem near_up(n d:Int)(hd:0<d):nearT n d=upI n d:=by
 rw[upI_rem n d hd];unfold nearT
 by_cases h:n.tmod d<0
 · obtain⟨e1,e2⟩:=(tdm n d hd).1 h;rw[if_pos h,e1,e2]
 · obtain⟨e1,e2⟩:=(tdm n d hd).2 h;rw[if_neg h,e1,e2]
theorem upI_exact(k d:Int)(hd:0<d):upI (k*d) d=k:=by
 unfold upI
 have:2*(k*d)+d=d+2*d*k:=by rw[Int.mul_assoc,Int.mul_comm d k];omega
 rw[this,Int.add_mul_ediv_left _ _ (by omega),Int.ediv_eq_zero_of_lt (by omega) (by omega)];omega
def standF(l:List Int)(c:Int):Nat→Nat→Nat
 |0,i=>i
 |f+1,i=>if i+2<l.length∧at0 l (i+1)≤c then standF l c f (i+1) else i
def standI(l:List Int)(c:Int):Nat:=standF l c l.length 0
structure Stands (l:List Int) (c:Int) (i:Nat):Prop where
 lt:i+1<l.length
 past:at0 l i≤c
 left:c≤at0 l (i+1)
 next:i+2<l.length→c<at0 l (i+1)
theorem Zis{l:List Int}{c:Int}(h1:c≤at0 l (l.length-1)):∀(f i:Nat),l.length≤f+i+2→i+1<l.length→at0 l i≤c→Stands l c (standF l c f i)
 |0,i,hf,hi,hp=>by
  have e:i+1=l.length-1:=by omega
  exact⟨hi,hp,by simp only[standF];rw[e];exact h1,fun h=>by simp only[standF] at h;omega⟩
 |f+1,i,hf,hi,hp=>by
  simp only[standF]
  split
  · rename_i h;exact Zis h1 f (i+1) (by omega) (by omega) h.2
  · rename_i h
    by_cases e:i+2<l.length
    · have:¬at0 l (i+1)≤c:=fun q=>h ⟨e,q⟩;exact⟨hi,hp,by omega,fun _=>by omega⟩
    · have q:i+1=l.length-1:=by omega
      exact⟨hi,hp,by rw[q];exact h1,fun h=>by omega⟩
theorem standI_stands{l:List Int}{c:Int}(p:Places l)(h0:at0 l 0≤c)(h1:c≤at0 l (l.length-1)):Stands l c (standI l c):=
 Zis h1 _ 0 (by omega) (by have:=p.lo;omega) h0
theorem Stands.unique{l:List Int}{c:Int}(p:Places l){i j:Nat}(a:Stands l c i)(b:Stands l c j):i=j:=by
 rcases Nat.lt_trichotomy i j with h|h|h
 · have:=a.next (by have:=b.lt;omega);have:=p.monole (show i+1≤j by omega) (by have:=b.lt;omega);have:=b.past;omega
 · exact h
 · have:=b.next (by have:=a.lt;omega);have:=p.monole (show j+1≤i by omega) (by have:=a.lt;omega);have:=a.past;omega
def clipT(x lo hi:Int):Int:=if x<lo then lo else if hi<lo then lo else if hi<x then hi else x
def Z3(l:List Int)(x:Int):Int:=clipT x (at0 l 0) (at0 l (l.length-1))
theorem clipE_bd{l:List Int}(p:Places l)(x:Int):at0 l 0≤Z3 l x∧Z3 l x≤at0 l (l.length-1):=by
 have:=p.mono (show 0<l.length-1 by have:=p.lo;omega) (by have:=p.lo;omega)
 unfold Z3 clipT;split<;>(try split)<;>(try split)<;>omega
theorem clipE_id{l:List Int}{x:Int}(h0:at0 l 0≤x)(h1:x≤at0 l (l.length-1)):Z3 l x=x:=by
 unfold Z3 clipT;rw[if_neg (by omega),if_neg (by omega),if_neg (by omega)]
def Xv(a z:List Int)(c:Int)(i:Nat):Int:=upI (at0 z i*(at0 a (i+1)-c)+at0 z (i+1)*(c-at0 a i)) (at0 a (i+1)-at0 a i)
def Yz(a z:List Int)(x:Int):Int:=Xv a z (Z3 a x) (standI a (Z3 a x))
theorem Nk{a z:List Int}(p:Places a){x:Int}{i:Nat}(s:Stands a (Z3 a x) i):Yz a z x=Xv a z (Z3 a x) i:=by
 have b:=clipE_bd p x;rw[Yz,(standI_stands p b.1 b.2).unique p s]
theorem height_left{a z:List Int}{i:Nat}(h:at0 a i<at0 a (i+1)):Xv a z (at0 a i) i=at0 z i:=by
 unfold Xv;rw[Int.sub_self,Int.mul_zero,Int.add_zero,upI_exact _ _ (by omega)]
theorem height_right{a z:List Int}{i:Nat}(h:at0 a i<at0 a (i+1)):Xv a z (at0 a (i+1)) i=at0 z (i+1):=by
 unfold Xv;rw[Int.sub_self,Int.mul_zero,Int.zero_add,upI_exact _ _ (by omega)]
theorem look_point{a z:List Int}(p:Places a)(k:Nat)(hk:k<a.length):Yz a z (at0 a k)=at0 z k:=by
 have h0:=p.monole (Nat.zero_le k) hk;have h1:=p.monole (show k≤a.length-1 by omega) (by omega);have e:=clipE_id h0 h1;have l2:=p.lo
 by_cases hl:k+1<a.length
 · have s:Stands a (Z3 a (at0 a k)) k:=by
    rw[e];exact⟨hl,by omega,by have:=p.up k hl;omega,fun _=>p.up k hl⟩
   rw[Nk p s,e,height_left (p.up k hl)]
 · obtain⟨j,rfl⟩:∃j,k=j+1:=⟨k-1,by omega⟩
   have s:Stands a (Z3 a (at0 a (j+1))) j:=by
    rw[e];exact⟨hk,by have:=p.up j hk;omega,by omega,fun h=>by omega⟩
   rw[Nk p s,e,height_right (p.up j hk)]
theorem look_last{a z:List Int}(p:Places a){x:Int}(h:at0 a (a.length-1)≤x):Yz a z x=at0 z (a.length-1):=by
 have l2:=p.lo;have m:=p.mono (show 0<a.length-1 by omega) (by omega)
 have e:Z3 a x=Z3 a (at0 a (a.length-1)):=by
  rw[clipE_id (l:=a) (x:=at0 a (a.length-1)) (by omega) (by omega)];unfold Z3 clipT;split<;>(try split)<;>(try split)<;>omega
 rw[Yz,e,←Yz,look_point p _ (by omega)]
theorem look_first{a z:List Int}(p:Places a){x:Int}(h:x≤at0 a 0):Yz a z x=at0 z 0:=by
 have l2:=p.lo;have m:=p.mono (show 0<a.length-1 by omega) (by omega)
 have e:Z3 a x=Z3 a (at0 a 0):=by
  rw[clipE_id (l:=a) (x:=at0 a 0) (by omega) (by omega)];unfold Z3 clipT;split<;>(try split)<;>(try split)<;>omega
 rw[Yz,e,←Yz,look_point p _ (by omega)]
theorem look_mid{a z:List Int}(p:Places a){x:Int}{i:Nat}(h0:at0 a 0≤x)(h1:x≤at0 a (a.length-1))(s:Stands a x i):Yz a z x=Xv a z x i:=by
 have e:=clipE_id h0 h1;rw[Nk p (i:=i) (by rw[e];exact s),e]
theorem mul_bdT{a b A B:Int}(ha:-A≤a)(ha':a≤A)(hb:-B≤b)(hb':b≤B):-(A*B)≤a*b∧a*b≤A*B:=by
 have h1:0≤(A-a)*(B+b):=Int.mul_nonneg (by omega) (by omega);have h2:0≤(A+a)*(B-b):=Int.mul_nonneg (by omega) (by omega);have h3:0≤(A-a)*(B-b):=Int.mul_nonneg (by omega) (by omega);have h4:0≤(A+a)*(B+b):=Int.mul_nonneg (by omega) (by omega);simp only[Int.sub_mul,Int.mul_sub,Int.add_mul,Int.mul_add] at h1 h2 h3 h4
 constructor<;>omega
end Go.Proofs.YtnfdfiholcelaaaGreatDoor.Plain
namespace Go.Proofs.YtnfdfiholcelaaaGreatDoor
open Go.RowKit Plain Tryz
variable {B n:Nat}{C R S T b hi i lo m x:Int}{a c:Value}{o:Bool}{w w' w0:World}
theorem nearest_any(n d:Int)(h0:-4611686018427387904≤n)(h1:n≤4611686018427387904)(d0:0<d)(d1:d≤4000000000000)(w:World):
 Calls prog 282 #[Vi n,Vi d] w fun e w'=>e=.returned (Vi (upI n d))∧∃k,w'=w.drewN k:=by
 have q:-4611686018427387904≤n.tdiv d∧n.tdiv d≤4611686018427387904:=by
  have h:(n.tdiv d).natAbs≤n.natAbs:=by rw[Int.natAbs_tdiv];exact Nat.div_le_self _ _
  omega
 have r:-4000000000000≤n.tmod d∧n.tmod d≤4000000000000:=by
  have h:(n.tmod d).natAbs<d.natAbs:=by rw[Int.natAbs_tmod];exact Nat.mod_lt _ (by omega)
  omega
 obtain⟨q0,q1⟩:=q;obtain⟨r0,r1⟩:=r
 have hd':(d==0)=false:=by simp;omega
 rw[←near_up n d d0]
 by_cases c1:n.tmod d<0
 · by_cases c2:d-(n.tmod d+d)≤n.tmod d+d
   · have e:nearT n d=n.tdiv d:=by unfold nearT;rw[if_pos c1,if_pos c2];omega
     rw[e];clear e
     go_enter func282,ntmps282
     go_wp2;go_quiet (fail);go_wp2;go_ret;exact⟨rfl,_,rfl⟩
   · have e:nearT n d=n.tdiv d-1:=by unfold nearT;rw[if_pos c1,if_neg c2]
     rw[e];clear e
     go_enter func282,ntmps282
     go_wp2;go_quiet (fail);go_wp2;go_ret;exact⟨rfl,_,rfl⟩
 · by_cases c2:d-n.tmod d≤n.tmod d
   · have e:nearT n d=n.tdiv d+1:=by unfold nearT;rw[if_neg c1,if_pos c2]
     rw[e];clear e
     go_enter func282,ntmps282
     go_wp2;go_quiet (fail);go_wp2;go_ret;exact⟨rfl,_,rfl⟩
   · have e:nearT n d=n.tdiv d:=by unfold nearT;rw[if_neg c1,if_neg c2]
     rw[e];clear e
     go_enter func282,ntmps282
     go_wp2;go_quiet (fail);go_wp2;go_ret;exact⟨rfl,_,rfl⟩
theorem pick_any(n d:Int)(d0:0<d)(d1:d≤8000000000000)(w:World):
 Calls prog 24 #[Vi n,Vi d] w (Re w (Vi (n%d))):=by
 have r:-8000000000000≤n.tmod d∧n.tmod d≤8000000000000:=by
  have h:(n.tmod d).natAbs<d.natAbs:=by rw[Int.natAbs_tmod];exact Nat.mod_lt _ (by omega)
  omega
 obtain⟨r0,r1⟩:=r
 have hd':(d==0)=false:=by simp;omega
 by_cases c1:n.tmod d<0
 · rw[((tdm n d d0).1 c1).1]
   go_enter func24,ntmps24
   go_wp2;go_ret;exact⟨rfl,rfl⟩
 · rw[((tdm n d d0).2 c1).1]
   go_enter func24,ntmps24
   go_wp2;go_ret;exact⟨rfl,rfl⟩
theorem down_cut(n d:Int)(d0:0<d):(n-n%d).tdiv d=n/d:=by
 have e:=Int.mul_ediv_add_emod n d
 have:n-n%d=(n/d)*d:=by rw[Int.mul_comm];omega
 rw[this,Int.mul_tdiv_cancel _ (by omega)]
theorem down_any(n d:Int)(h0:-9200000000000000000≤n)(h1:n≤9200000000000000000)(d0:0<d)(d1:d≤8000000000000)(w:World):
 Calls prog 141 #[Vi n,Vi d] w (Re w (Vi (n/d))):=by
 have hd':(d==0)=false:=by simp;omega
 have m0:=Int.emod_nonneg n (show d≠0 by omega);have m1:=Int.emod_lt_of_pos n d0;rw[←down_cut n d d0]
 have q:-9223372036854775807≤(n-n%d).tdiv d∧(n-n%d).tdiv d≤9223372036854775807:=by
  have h:((n-n%d).tdiv d).natAbs≤(n-n%d).natAbs:=by rw[Int.natAbs_tdiv];exact Nat.div_le_self _ _
  omega
 obtain⟨q0,q1⟩:=q
 go_enter func141,ntmps141
 go_wp2_with (go_at_call 24;refine(pick_any _ _ d0 d1 _).mono ?_;rintro e w' ⟨rfl,rfl⟩);go_ret;exact⟨rfl,rfl⟩
theorem up_any(n d:Int)(h0:-4500000000000000000≤n)(h1:n≤4500000000000000000)(d0:0<d)(d1:d≤4000000000000)(w:World):
 Calls prog 199 #[Vi n,Vi d] w (Re w (Vi (upI n d))):=by
 unfold upI
 go_enter func199,ntmps199
 go_wp2_with (go_at_call 141;refine(down_any _ _ (by omega) (by omega) (by omega) (by omega) _).mono ?_;rintro e w' ⟨rfl,rfl⟩);go_ret;exact⟨rfl,rfl⟩
theorem Ys(e:Int)(w:World):Calls prog 14 #[.bool true,Vi e] w (Re w (Vi e)):=by
 go_enter func14,ntmps14
 go_wp2;go_ret;exact⟨rfl,rfl⟩
theorem Xw(e:Int)(w:World):Calls prog 14 #[.bool false,Vi e] w (Re w (Vi 0)):=by
 go_enter func14,ntmps14
 go_wp2;go_ret;exact⟨rfl,rfl⟩
theorem Ww(b:Bool)(e:Int)(w:World):Calls prog 14 #[.bool b,Vi e] w (Re w (Vi (if b then e else 0))):=by
 cases b
 · exact Xw e w
 · exact Ys e w
theorem when_named(b:Bool)(e:Int)(w:World):Calls prog 14 #[.bool b,Vi e] w fun r w'=>∃x,r=.returned (Vi x)∧Hid (x=if b then e else 0)∧w'=w:=
 (Ww b e w).mono fun _ _ ⟨h1,h2⟩=>⟨_,h1,rfl,h2⟩
def errV(e:Int):Value:=if e=0 then .nilIface else .iface 44 (Vi e)
theorem Z2:errV 0=.nilIface:=rfl
theorem Z4{e:Int}(h:e≠0):errV e=.iface 44 (Vi e):=by unfold errV;rw[if_neg h]
theorem code_nil(w:World):Calls prog 63 #[.nilIface] w (Re w (Vi 0)):=by
 go_enter func63,ntmps63
 go_wp2;go_ret;exact⟨rfl,rfl⟩
theorem as_errno(v:Value)(w:World):(Instr.typeAssert (.iface 44 v) 51 44 true).run prog w=.ok (.tuple #[v,.bool true]) w:=by kernel_rfl
theorem code_errno(x:Int)(w:World):Calls prog 63 #[.iface 44 (Vi x)] w (Re w (Vi x)):=by
 have ta:=as_errno (Vi x)
 go_enter func63,ntmps63
 go_wp2;go_ret;exact⟨rfl,rfl⟩
theorem code_any(x:Int)(w:World):Calls prog 63 #[errV x] w (Re w (Vi x)):=by
 by_cases h:x=0
 · subst h;exact code_nil w
 · rw[Z4 h];exact code_errno x w
theorem is_any(x e:Int)(w:World):Calls prog 17 #[errV x,Vi e] w (Re w (.bool (x==e))):=by
 go_enter func17,ntmps17
 go_wp2_with (go_at_call 63;refine(code_any _ _).mono ?_;rintro e w' ⟨rfl,rfl⟩);go_ret;exact⟨rfl,rfl⟩
theorem Ux(x lo hi:Int)(w:World):
 Calls prog 38 #[Vi x,Vi lo,Vi hi] w (Re w (.bool (decide (lo≤x)&&decide (x≤hi)))):=by
 by_cases g1:lo≤x
 · by_cases g2:x≤hi
   · rw[decide_eq_true g1,decide_eq_true g2]
     go_enter func38,ntmps38
     go_wp2;go_ret;exact⟨rfl,rfl⟩
   · rw[decide_eq_true g1,decide_eq_false g2]
     go_enter func38,ntmps38
     go_wp2;go_ret;exact⟨by simp,rfl⟩
 · rw[decide_eq_false g1]
   go_enter func38,ntmps38
   go_wp2;go_ret;exact⟨rfl,rfl⟩
theorem Zjh(x:Int)(w:World):
 Calls prog 38 #[Vi x,Vi (-1000000),Vi 1000000] w (Re w (.bool (Zu x))):=Ux x _ _ w
theorem isBeyond_any(x:Int)(w:World):
 Calls prog 266 #[Vi x] w (Re w (.bool (!Zu x))):=by
 by_cases g1:1000000<x
 · have e:Zu x=false:=by simp[Zu];omega
   rw[e]
   go_enter func266,ntmps266
   go_wp2;go_ret;exact⟨rfl,rfl⟩
 · by_cases g2:x< -1000000
   · have e:Zu x=false:=by simp[Zu];omega
     rw[e]
     go_enter func266,ntmps266
     go_wp2;go_ret;exact⟨by simp,rfl⟩
   · have e:Zu x=true:=by simp[Zu];omega
     rw[e]
     go_enter func266,ntmps266
     go_wp2;go_ret;exact⟨by simp,rfl⟩
theorem nan_any(x:Int)(w:World):Calls prog 238 #[Vi x] w (Re w (.bool false)):=by
 have e:(x != x)=false:=by simp
 go_enter func238,ntmps238
 go_wp2;go_ret;exact⟨by simp,rfl⟩
def Zm:List Int→Int
 |[]=>0
 |x::l=>if x=0 then Zm l else x
theorem first_step(zs:List Int)(k:Nat)(h:k<zs.length):Zm (zs.drop k)=if zs.getD k 0=0 then Zm (zs.drop (k+1)) else zs.getD k 0:=by
 rw[List.drop_eq_getElem_cons h,List.getD_eq_getElem?_getD,List.getElem?_eq_getElem h];rfl
theorem first_any(b off cap:Nat)(zs:List Int)(w:World)(hm:zs.length≤9223372036854775807)(hc:∀k,k<zs.length→Kc w b (off+k) (Vi (zs.getD k 0))):
 Calls prog 13 #[.slice (some (Ad b off)) zs.length cap] w (Re w (Vi (Zm zs))):=by
 have HC:Hid (∀k,k<zs.length→Kc w b (off+k) (Vi (zs.getD k 0))):=hc;clear hc
 go_enter func13,ntmps13
 go_wp2
 go_loop [3] (fun i=>∃k:Nat,k≤zs.length∧i=Vi k∧Hid (Zm zs=Zm (zs.drop k))) (fun i=>zs.length-(intOf i).toNat)
 case atStart=>exact⟨0,Nat.zero_le _,rfl,by show Zm zs=Zm (zs.drop 0);rw[List.drop_zero]⟩
 case round=>
  obtain⟨k,hk,rfl,hf⟩:=hrel
  by_cases hlt:k<zs.length
  · have hcell:=HC.out k hlt;have hs:=first_step zs k hlt;generalize zs.getD k 0=z at hcell hs
    by_cases hz:z=0
    · subst hz;rw[if_pos rfl] at hs;have HS:Hid (Zm zs=Zm (zs.drop (k+1))):=hf.out.trans hs;clear hs hf;go_wp2
      go_round
      case rel=>exact⟨k+1,by omega,by go_num,HS⟩
      case measure=>simp[intOf];omega
    · rw[if_neg hz] at hs;have HS:Hid (Zm zs=z):=hf.out.trans hs;clear hs hf
      have hz':(z != 0)=true:=by simpa using hz
      clear hz;go_wp2;go_ret;exact⟨by rw[HS.out];rfl,rfl⟩
  · go_wp2;go_ret
    have:k=zs.length:=by omega
    subst this;exact⟨by rw[hf.out,List.drop_length];rfl,rfl⟩
theorem first_two(b cap:Nat)(x y:Int)(w:World)(h0:Kc w b 0 (Vi x))(h1:Kc w b 1 (Vi y)):
 Calls prog 13 #[.slice (some (Ad b 0)) 2 cap] w (Re w (Vi (Zm [x,y]))):=by
 refine first_any b 0 cap [x,y] w (by simp) ?_;intro k hk;simp only[List.length_cons,List.length_nil] at hk
 match k,hk with
 |0,_=>exact h0
 |1,_=>exact h1
theorem Uy(b cap:Nat)(x y z:Int)(w:World)(h0:Kc w b 0 (Vi x))(h1:Kc w b 1 (Vi y))(h2:Kc w b 2 (Vi z)):
 Calls prog 13 #[.slice (some (Ad b 0)) 3 cap] w (Re w (Vi (Zm [x,y,z]))):=by
 refine first_any b 0 cap [x,y,z] w (by simp) ?_;intro k hk;simp only[List.length_cons,List.length_nil] at hk
 match k,hk with
 |0,_=>exact h0
 |1,_=>exact h1
 |2,_=>exact h2
theorem first_four(b cap:Nat)(x y z u:Int)(w:World)(h0:Kc w b 0 (Vi x))(h1:Kc w b 1 (Vi y))(h2:Kc w b 2 (Vi z))(h3:Kc w b 3 (Vi u)):
 Calls prog 13 #[.slice (some (Ad b 0)) 4 cap] w (Re w (Vi (Zm [x,y,z,u]))):=by
 refine first_any b 0 cap [x,y,z,u] w (by simp) ?_;intro k hk;simp only[List.length_cons,List.length_nil] at hk
 match k,hk with
 |0,_=>exact h0
 |1,_=>exact h1
 |2,_=>exact h2
 |3,_=>exact h3
theorem first_new2(T:TypeId)(x y:Int)(w:World):
 Calls prog 13 #[.slice (some (Ad w.heap.size 0)) 2 2] (w.alloc (.cells #[Vi x,Vi y] T)) fun r w'=>r=.returned (Vi (Zm [x,y]))∧w'=w.alloc (.cells #[Vi x,Vi y] T):=
 first_two _ _ x y _ (by simp[go_sem]) (by simp[go_sem])
theorem first_new3(T:TypeId)(x y z:Int)(w:World):
 Calls prog 13 #[.slice (some (Ad w.heap.size 0)) 3 3] (w.alloc (.cells #[Vi x,Vi y,Vi z] T)) fun r w'=>r=.returned (Vi (Zm [x,y,z]))∧w'=w.alloc (.cells #[Vi x,Vi y,Vi z] T):=
 Uy _ _ x y z _ (by simp[go_sem]) (by simp[go_sem]) (by simp[go_sem])
theorem first_new4(T:TypeId)(x y z u:Int)(w:World):
 Calls prog 13 #[.slice (some (Ad w.heap.size 0)) 4 4] (w.alloc (.cells #[Vi x,Vi y,Vi z,Vi u] T)) fun r w'=>r=.returned (Vi (Zm [x,y,z,u]))∧w'=w.alloc (.cells #[Vi x,Vi y,Vi z,Vi u] T):=
 first_four _ _ x y z u _ (by simp[go_sem]) (by simp[go_sem]) (by simp[go_sem]) (by simp[go_sem])
theorem Za{p:Prop}(h:p):Hid p:=h
theorem Zb(w:World)(o:Obj):Bw w (w.alloc o):=(Below.refl _ _).alloc (Nat.le_refl _) o
theorem Zc{w1 w2:World}(h:Bw w w1)(k:Bw w1 w2):Bw w w2:=h.trans (k.mono h.size)
def betw(x lo hi:Int):Bool:=decide (lo≤x)&&decide (x≤hi)
theorem Z0(h:betw x lo hi=true):lo≤x∧x≤hi:=by simp[betw] at h;omega
theorem Y7(h0:lo≤x)(h1:x≤hi):betw x lo hi=true:=by simp[betw];omega
theorem Zy(x lo hi:Int)(w:World):
 Calls prog 38 #[Vi x,Vi lo,Vi hi] w (Re w (.bool (betw x lo hi))):=Ux x lo hi w
theorem fixIn_ex(x lo hi:Int)(w:World):
 Calls prog 128 #[Vi x,.agg #[Vi lo,Vi hi]] w fun e w'=>e=.returned (.bool (betw x lo hi))∧w'=w.alloc (.cells #[Vi lo,Vi hi] 105):=by
 unfold betw
 by_cases g1:lo≤x
 · by_cases g2:x≤hi
   · rw[decide_eq_true g1,decide_eq_true g2]
     go_enter func128,ntmps128
     go_wp2;go_ret;exact⟨rfl,rfl⟩
   · rw[decide_eq_true g1,decide_eq_false g2]
     go_enter func128,ntmps128
     go_wp2;go_ret;exact⟨by simp,rfl⟩
 · rw[decide_eq_false g1]
   go_enter func128,ntmps128
   go_wp2;go_ret;exact⟨rfl,rfl⟩
theorem Ym(x lo hi:Int)(w:World):
 Calls prog 76 #[Vi x,Vi lo,Vi hi] w fun e w'=>e=.returned (.bool (betw x lo hi))∧w'=w.alloc (.cells #[Vi lo,Vi hi] 105):=by
 go_enter func76,ntmps76
 go_wp2_with (go_at_call 128;refine(fixIn_ex _ _ _ _).mono ?_;rintro e w' ⟨rfl,rfl⟩);go_ret;exact⟨rfl,rfl⟩
def arB(T R S C:Int):Bool:=betw T 1 1000&&betw R 1 T&&betw S 0 T&&betw C 1 10
def arE(T R S C:Int):Int:=if arB T R S C then 0 else 1
theorem Yf(h:arB T R S C=true):(1≤T∧T≤1000)∧(1≤R∧R≤T)∧(0≤S∧S≤T)∧1≤C∧C≤10:=by
 simp only[arB,Bool.and_eq_true] at h;exact⟨Z0 h.1.1.1,Z0 h.1.1.2,Z0 h.1.2,Z0 h.2⟩
theorem Wx(h:arE T R S C=0):arB T R S C=true:=by
 unfold arE at h;split at h
 · assumption
 · omega
theorem arE_ne(h:arE T R S C≠0):arE T R S C=1:=by unfold arE at *;split<;>simp_all
theorem N8(T R S C:Int)(w:World):
 Calls prog 180 #[.agg #[Vi T,Vi R,Vi S,Vi C]] w (Rt w (errV (arE T R S C))):=by
 have f1:=Ym T 1 1000;have f2:=Ym R 1 T;have f3:=Ym S 0 T;have f4:=Ym C 1 10
 unfold arE arB
 generalize betw T 1 1000=x1 at *;generalize betw R 1 T=x2 at *;generalize betw S 0 T=x3 at *;generalize betw C 1 10=x4 at*
 rcases(show x1=false∨(x1=true∧x2=false)∨(x1=true∧x2=true∧x3=false)∨(x1=true∧x2=true∧x3=true∧x4=false)∨(x1=true∧x2=true∧x3=true∧x4=true) by cases x1<;>cases x2<;>cases x3<;>cases x4<;>simp) with rfl|⟨rfl,rfl⟩|⟨rfl,rfl,rfl⟩|⟨rfl,rfl,rfl,rfl⟩|⟨rfl,rfl,rfl,rfl⟩
 all_goals
  go_enter func180,ntmps180
  go_wp2_with (first|((first|go_at_call_of 76 (Vi R)|go_at_call_of 76 (Value.int .i64 R));refine(f2 _).mono ?_;rintro e w' ⟨rfl,rfl⟩)|((first|go_at_call_of 76 (Vi S)|go_at_call_of 76 (Value.int .i64 S));refine(f3 _).mono ?_;rintro e w' ⟨rfl,rfl⟩)|((first|go_at_call_of 76 (Vi C)|go_at_call_of 76 (Value.int .i64 C));refine(f4 _).mono ?_;rintro e w' ⟨rfl,rfl⟩)|((first|go_at_call_of 76 (Vi T)|go_at_call_of 76 (Value.int .i64 T));refine(f1 _).mono ?_;rintro e w' ⟨rfl,rfl⟩));go_ret;exact⟨rfl,by repeat (first|exact Zb _ _|refine Zc ?_ (Zb _ _))⟩
theorem refActRule_any(T R S C:Int)(w:World):
 Calls prog 89 #[.agg #[Vi T,Vi R,Vi S,Vi C]] w (Rt w (Vi (arE T R S C))):=by
 have f1:=Zy T 1 1000;have f2:=Zy R 1 T;have f3:=Zy S 0 T;have f4:=Zy C 1 10
 unfold arE arB
 generalize betw T 1 1000=x1 at *;generalize betw R 1 T=x2 at *;generalize betw S 0 T=x3 at *;generalize betw C 1 10=x4 at*
 rcases(show x1=false∨(x1=true∧x2=false)∨(x1=true∧x2=true∧x3=false)∨(x1=true∧x2=true∧x3=true∧x4=false)∨(x1=true∧x2=true∧x3=true∧x4=true) by cases x1<;>cases x2<;>cases x3<;>cases x4<;>simp) with rfl|⟨rfl,rfl⟩|⟨rfl,rfl,rfl⟩|⟨rfl,rfl,rfl,rfl⟩|⟨rfl,rfl,rfl,rfl⟩
 all_goals
  go_enter func89,ntmps89
  go_wp2_with (first|((first|go_at_call_of 38 (Vi R)|go_at_call_of 38 (Value.int .i64 R));refine(f2 _).mono ?_;rintro e w' ⟨rfl,rfl⟩)|((first|go_at_call_of 38 (Vi S)|go_at_call_of 38 (Value.int .i64 S));refine(f3 _).mono ?_;rintro e w' ⟨rfl,rfl⟩)|((first|go_at_call_of 38 (Vi C)|go_at_call_of 38 (Value.int .i64 C));refine(f4 _).mono ?_;rintro e w' ⟨rfl,rfl⟩)|((first|go_at_call_of 38 (Vi T)|go_at_call_of 38 (Value.int .i64 T));refine(f1 _).mono ?_;rintro e w' ⟨rfl,rfl⟩)|(go_at_call 14;refine(Ww _ _ _).mono ?_;rintro e w' ⟨rfl,rfl⟩));go_ret;exact⟨rfl,Zb _ _⟩
def B2(w:World)(B:Nat)(a b:Value):Prop:=Kc w B 0 a∧Kc w B 1 b
def B3(w:World)(B:Nat)(a b c:Value):Prop:=Kc w B 0 a∧Kc w B 1 b∧Kc w B 2 c
def B4(w:World)(B:Nat)(a b c d:Value):Prop:=Kc w B 0 a∧Kc w B 1 b∧Kc w B 2 c∧Kc w B 3 d
theorem B2.later{b:Value}(h:B2 w B a b)(hb:Bw w w'):B2 w' B a b:=⟨cell_later hb h.1,cell_later hb h.2⟩
theorem B3.later{b:Value}(h:B3 w B a b c)(hb:Bw w w'):B3 w' B a b c:=⟨cell_later hb h.1,cell_later hb h.2.1,cell_later hb h.2.2⟩
theorem B4.later{b d:Value}(h:B4 w B a b c d)(hb:Bw w w'):B4 w' B a b c d:=⟨cell_later hb h.1,cell_later hb h.2.1,cell_later hb h.2.2.1,cell_later hb h.2.2.2⟩
theorem B2.new(w:World)(a b:Value)(t:TypeId):B2 (w.alloc (.cells #[a,b] t)) w.heap.size a b:=by refine⟨?_,?_⟩<;>simp[go_sem]
theorem B3.new(w:World)(a b c:Value)(t:TypeId):B3 (w.alloc (.cells #[a,b,c] t)) w.heap.size a b c:=by refine⟨?_,?_,?_⟩<;>simp[go_sem]
theorem B4.new(w:World)(a b c d:Value)(t:TypeId):B4 (w.alloc (.cells #[a,b,c,d] t)) w.heap.size a b c d:=by refine⟨?_,?_,?_,?_⟩<;>simp[go_sem]
theorem size_alloc(w:World)(o:Obj):(w.alloc o).heap.size=w.heap.size+1:=by simp[go_sem]
def RS(w0 w:World)(T R S C i b:Int)(o:Bool):Prop:=
 B4 w w0.heap.size (Vi T) (Vi R) (Vi S) (Vi C)∧B3 w (w0.heap.size+1) (Vi i) (Vi b) (.bool o)∧Bw w0 w
theorem RS.later(h:RS w0 w T R S C i b o)(hb:Bw w w'):RS w0 w' T R S C i b o:=⟨h.1.later hb,h.2.1.later hb,Zc h.2.2 hb⟩
theorem RS.new(w:World)(T R S C i b:Int)(o:Bool):RS w ((w.alloc (.cells #[Vi T,Vi R,Vi S,Vi C] 113)).alloc (.cells #[Vi i,Vi b,.bool o] 116)) T R S C i b o:=by
 refine⟨(B4.new w _ _ _ _ _).later (Zb _ _),?_,Zc (Zb _ _) (Zb _ _)⟩;rw[←size_alloc w (.cells #[Vi T,Vi R,Vi S,Vi C] 113)];exact B3.new _ _ _ _ _
theorem Wd(x lo hi:Int)(w:World):
 Calls prog 76 #[Vi x,Vi lo,Vi hi] w (Rt w (.bool (betw x lo hi))):=
 (Ym x lo hi w).mono fun e w' h=>⟨h.1,by rw[h.2];exact Zb _ _⟩
def svB(T C i b:Int)(o:Bool):Bool:=betw i (-T) T&&betw b 0 C&&(!o||i==0)&&(o||decide (b<C))
def svE(T R S C i b:Int)(o:Bool):Int:=if arE T R S C=0 then(if svB T C i b o then 0 else 3) else arE T R S C
theorem Wo(h:svE T R S C i b o=0):arB T R S C=true∧svB T C i b o=true:=by
 unfold svE at h
 split at h
 · split at h
   · exact⟨Wx (by assumption),by assumption⟩
   · omega
 · exact absurd h (by assumption)
theorem svE_mk(h:arB T R S C=true)(h':svB T C i b o=true):svE T R S C i b o=0:=by
 unfold svE arE;rw[if_pos h,if_pos rfl,if_pos h']
theorem Yv(h:svB T C i b o=true):(-T≤i∧i≤T)∧(0≤b∧b≤C)∧(o=true→i=0)∧(o=false→b<C):=by
 simp only[svB,Bool.and_eq_true,Bool.or_eq_true,Bool.not_eq_true',beq_iff_eq,decide_eq_true_eq] at h;obtain⟨⟨⟨h1,h2⟩,h3⟩,h4⟩:=h;refine⟨Z0 h1,Z0 h2,?_,?_⟩
 · rintro rfl;simpa using h3
 · rintro rfl;simpa using h4
theorem Np(T R S C i b:Int)(o:Bool)(w:World):
 Calls prog 159 #[.agg #[Vi T,Vi R,Vi S,Vi C],.agg #[Vi i,Vi b,.bool o]] w (Rt w (errV (svE T R S C i b o))):=by
 have hr:=N8 T R S C;have HX:=Za (RS.new w T R S C i b o)
 by_cases e1:arE T R S C=0
 · rw[e1,Z2] at hr;have f1:=Wd i (-T) T;have f2:=Wd b 0 C
   have hE:svE T R S C i b o=if svB T C i b o then 0 else 3:=by unfold svE;rw[if_pos e1]
   obtain⟨⟨t0,t1⟩,_,_,c0,c1⟩:=Yf (Wx e1);have hb2:betw b 0 C=true→b≤C:=fun h=>(Z0 h).2
   unfold svB at hE
   clear e1;generalize betw i (-T) T=x1 at *;generalize betw b 0 C=x2 at*
   cases x1
   · have HE:Hid (svE T R S C i b o=3):=hE;clear hE hb2
     go_enter func159,ntmps159
     go_wp2_with (first
      |(go_at_call 180;refine Sb (hr _) fun w1 hb1=>?_;have HX:=Za (HX.out.later hb1);obtain⟨⟨r0,r1,r2,r3⟩,⟨s0,s1,s2⟩,_⟩:=HX.out;clear hb1)
      |((first|go_at_call_of 76 (Vi i)|go_at_call_of 76 (Value.int .i64 i));refine Sb (f1 _) fun w2 hb2=>?_;have HX:=Za (HX.out.later hb2);obtain⟨⟨r0,r1,r2,r3⟩,⟨s0,s1,s2⟩,_⟩:=HX.out;clear hb2))
     go_ret;exact⟨by rw[HE.out];rfl,HX.out.2.2⟩
   · cases x2
     · have HE:Hid (svE T R S C i b o=3):=hE;clear hE hb2
       go_enter func159,ntmps159
       go_wp2_with (first
        |(go_at_call 180;refine Sb (hr _) fun w1 hb1=>?_;have HX:=Za (HX.out.later hb1);obtain⟨⟨r0,r1,r2,r3⟩,⟨s0,s1,s2⟩,_⟩:=HX.out;clear hb1)
        |((first|go_at_call_of 76 (Vi i)|go_at_call_of 76 (Value.int .i64 i));refine Sb (f1 _) fun w2 hb2=>?_;have HX:=Za (HX.out.later hb2);obtain⟨⟨r0,r1,r2,r3⟩,⟨s0,s1,s2⟩,_⟩:=HX.out;clear hb2)
        |((first|go_at_call_of 76 (Vi b)|go_at_call_of 76 (Value.int .i64 b));refine Sb (f2 _) fun w3 hb3=>?_;have HX:=Za (HX.out.later hb3);obtain⟨⟨r0,r1,r2,r3⟩,⟨s0,s1,s2⟩,_⟩:=HX.out;clear hb3))
       go_ret;exact⟨by rw[HE.out];rfl,HX.out.2.2⟩
     · have hbC:=hb2 rfl;clear hb2
       cases o
       · by_cases hlt:b<C
         · have HE:Hid (svE T R S C i b false=0):=by show svE T R S C i b false=0;rw[hE];simp[hlt]
           have hq:(b==C)=false:=by simp;omega
           clear hE
           go_enter func159,ntmps159
           go_wp2_with (first
            |(go_at_call 180;refine Sb (hr _) fun w1 hb1=>?_;have HX:=Za (HX.out.later hb1);obtain⟨⟨r0,r1,r2,r3⟩,⟨s0,s1,s2⟩,_⟩:=HX.out;clear hb1)
            |((first|go_at_call_of 76 (Vi i)|go_at_call_of 76 (Value.int .i64 i));refine Sb (f1 _) fun w2 hb2=>?_;have HX:=Za (HX.out.later hb2);obtain⟨⟨r0,r1,r2,r3⟩,⟨s0,s1,s2⟩,_⟩:=HX.out;clear hb2)
            |((first|go_at_call_of 76 (Vi b)|go_at_call_of 76 (Value.int .i64 b));refine Sb (f2 _) fun w3 hb3=>?_;have HX:=Za (HX.out.later hb3);obtain⟨⟨r0,r1,r2,r3⟩,⟨s0,s1,s2⟩,_⟩:=HX.out;clear hb3))
           go_ret;exact⟨by rw[HE.out];rfl,HX.out.2.2⟩
         · have HE:Hid (svE T R S C i b false=3):=by show svE T R S C i b false=3;rw[hE];simp[hlt]
           have hq:(b==C)=true:=by simp;omega
           clear hE
           go_enter func159,ntmps159
           go_wp2_with (first
            |(go_at_call 180;refine Sb (hr _) fun w1 hb1=>?_;have HX:=Za (HX.out.later hb1);obtain⟨⟨r0,r1,r2,r3⟩,⟨s0,s1,s2⟩,_⟩:=HX.out;clear hb1)
            |((first|go_at_call_of 76 (Vi i)|go_at_call_of 76 (Value.int .i64 i));refine Sb (f1 _) fun w2 hb2=>?_;have HX:=Za (HX.out.later hb2);obtain⟨⟨r0,r1,r2,r3⟩,⟨s0,s1,s2⟩,_⟩:=HX.out;clear hb2)
            |((first|go_at_call_of 76 (Vi b)|go_at_call_of 76 (Value.int .i64 b));refine Sb (f2 _) fun w3 hb3=>?_;have HX:=Za (HX.out.later hb3);obtain⟨⟨r0,r1,r2,r3⟩,⟨s0,s1,s2⟩,_⟩:=HX.out;clear hb3))
           go_ret;exact⟨by rw[HE.out];rfl,HX.out.2.2⟩
       · by_cases hi:i=0
         · have HE:Hid (svE T R S C i b true=0):=by show svE T R S C i b true=0;rw[hE];simp[hi]
           have hq:(i != 0)=false:=by simp[hi]
           clear hE hi
           go_enter func159,ntmps159
           go_wp2_with (first
            |(go_at_call 180;refine Sb (hr _) fun w1 hb1=>?_;have HX:=Za (HX.out.later hb1);obtain⟨⟨r0,r1,r2,r3⟩,⟨s0,s1,s2⟩,_⟩:=HX.out;clear hb1)
            |((first|go_at_call_of 76 (Vi i)|go_at_call_of 76 (Value.int .i64 i));refine Sb (f1 _) fun w2 hb2=>?_;have HX:=Za (HX.out.later hb2);obtain⟨⟨r0,r1,r2,r3⟩,⟨s0,s1,s2⟩,_⟩:=HX.out;clear hb2)
            |((first|go_at_call_of 76 (Vi b)|go_at_call_of 76 (Value.int .i64 b));refine Sb (f2 _) fun w3 hb3=>?_;have HX:=Za (HX.out.later hb3);obtain⟨⟨r0,r1,r2,r3⟩,⟨s0,s1,s2⟩,_⟩:=HX.out;clear hb3))
           go_ret;exact⟨by rw[HE.out];rfl,HX.out.2.2⟩
         · have HE:Hid (svE T R S C i b true=3):=by show svE T R S C i b true=3;rw[hE];simp[hi]
           have hq:(i != 0)=true:=by simpa using hi
           clear hE hi
           go_enter func159,ntmps159
           go_wp2_with (first
            |(go_at_call 180;refine Sb (hr _) fun w1 hb1=>?_;have HX:=Za (HX.out.later hb1);obtain⟨⟨r0,r1,r2,r3⟩,⟨s0,s1,s2⟩,_⟩:=HX.out;clear hb1)
            |((first|go_at_call_of 76 (Vi i)|go_at_call_of 76 (Value.int .i64 i));refine Sb (f1 _) fun w2 hb2=>?_;have HX:=Za (HX.out.later hb2);obtain⟨⟨r0,r1,r2,r3⟩,⟨s0,s1,s2⟩,_⟩:=HX.out;clear hb2)
            |((first|go_at_call_of 76 (Vi b)|go_at_call_of 76 (Value.int .i64 b));refine Sb (f2 _) fun w3 hb3=>?_;have HX:=Za (HX.out.later hb3);obtain⟨⟨r0,r1,r2,r3⟩,⟨s0,s1,s2⟩,_⟩:=HX.out;clear hb3))
           go_ret;exact⟨by rw[HE.out];rfl,HX.out.2.2⟩
 · have HE:Hid (svE T R S C i b o=1):=by show svE T R S C i b o=1;unfold svE;rw[if_neg e1,arE_ne e1]
   rw[arE_ne e1,Z4 (by decide)] at hr;clear e1
   go_enter func159,ntmps159
   go_wp2_with (first
    |(go_at_call 180;refine Sb (hr _) fun w1 hb1=>?_;have HX:=Za (HX.out.later hb1);obtain⟨⟨r0,r1,r2,r3⟩,⟨s0,s1,s2⟩,_⟩:=HX.out;clear hb1))
   go_ret;exact⟨by rw[HE.out];rfl,HX.out.2.2⟩
def mnA(x y:Int):Int:=min x y
def mxA(x y:Int):Int:=max x y
theorem run_minA(ts:Array TypeId)(t:TypeId)(p q:Int)(w:World):(Builtin.min_ ts t #[Vi p,Vi q]).run prog w=.ok (Vi (mnA p q)) w:=by
 unfold mnA;by_cases h:q<p
 · rw[Int.min_eq_right (by omega)];simp[Builtin.min_,Builtin.min2,h]
 · rw[Int.min_eq_left (by omega)];simp[Builtin.min_,Builtin.min2,h]
theorem run_maxA(ts:Array TypeId)(t:TypeId)(p q:Int)(w:World):(Builtin.max_ ts t #[Vi p,Vi q]).run prog w=.ok (Vi (mxA p q)) w:=by
 unfold mxA;by_cases h:p<q
 · rw[Int.max_eq_right (by omega)];simp[Builtin.max_,Builtin.max2,h]
 · rw[Int.max_eq_left (by omega)];simp[Builtin.max_,Builtin.max2,h]
def loR(T R i:Int)(o:Bool):Int:=if o then 0 else mxA (i-R) (-T)
def hiR(T R i:Int)(o:Bool):Int:=if o then 0 else mnA (i+R) T
theorem reached_any(T R S C i b:Int)(o:Bool)(hr:arB T R S C=true)(hs:svB T C i b o=true)(w:World):
 Calls prog 200 #[.agg #[Vi T,Vi R,Vi S,Vi C],.agg #[Vi i,Vi b,.bool o]] w (Rt w (.agg #[Vi (loR T R i o),Vi (hiR T R i o)])):=by
 obtain⟨⟨t0,t1⟩,⟨r0,r1⟩,_,_,_⟩:=Yf hr;have i0:=(Yv hs).1.1;have i1:=(Yv hs).1.2;have m2:=fun ts t p q w=>run_minA ts t p q w;have x2:=fun ts t p q w=>run_maxA ts t p q w;have HN:=Za (RS.new w T R S C i b o).2.2;clear hr hs
 unfold loR hiR
 cases o
 · simp only[Bool.false_eq_true,if_false]
   go_enter func200,ntmps200
   go_wp2;exact bodyPost_ret (v:=.agg #[Vi (mxA (i-R) (-T)),Vi (mnA (i+R) T)]) (by simp[results,results200,go_sem]) rfl ⟨rfl,Zc HN.out (Zb _ _)⟩
 · simp only[if_true]
   go_enter func200,ntmps200
   go_wp2;exact bodyPost_ret (v:=.agg #[Vi 0,Vi 0]) (by simp[results,results200,go_sem]) rfl ⟨rfl,Zc HN.out (Zb _ _)⟩
def FrA(w:World)(B n:Nat):Prop:=(∀j,j<n→w.frozen? (Ad B j)=false)∧B<w.heap.size
theorem FrA.later(h:FrA w B n)(hb:Bw w w'):FrA w' B n:=
 ⟨fun j hj=>(hb.frozen (p:=⟨B,j,none⟩) h.2).trans (h.1 j hj),Nat.lt_of_lt_of_le h.2 hb.size⟩
theorem FrA.new{cs:Array Value}{T:TypeId}:FrA (w.alloc (.cells cs T)) w.heap.size n:=
 ⟨fun j _=>by simp[go_sem],by simp[go_sem]⟩
def RSP(w0 w:World)(T R S C i b:Int)(o:Bool):Prop:=RS w0 w T R S C i b o∧B2 w (w0.heap.size+1+1) (Vi 0) (Vi 0)∧FrA w (w0.heap.size+1+1) 2
theorem RSP.later(h:RSP w0 w T R S C i b o)(hb:Bw w w'):RSP w0 w' T R S C i b o:=⟨h.1.later hb,h.2.1.later hb,h.2.2.later hb⟩
theorem RSP.new(w:World)(T R S C i b:Int)(o:Bool):RSP w (((w.alloc (.cells #[Vi T,Vi R,Vi S,Vi C] 113)).alloc (.cells #[Vi i,Vi b,.bool o] 116)).alloc (.cells #[Vi 0,Vi 0] 105)) T R S C i b o:=by
 refine⟨(RS.new w T R S C i b o).later (Zb _ _),?_,?_⟩
 · rw[←size_alloc w (.cells #[Vi T,Vi R,Vi S,Vi C] 113),←size_alloc (w.alloc (.cells #[Vi T,Vi R,Vi S,Vi C] 113)) (.cells #[Vi i,Vi b,.bool o] 116)];exact B2.new _ _ _ _
 · rw[←size_alloc w (.cells #[Vi T,Vi R,Vi S,Vi C] 113),←size_alloc (w.alloc (.cells #[Vi T,Vi R,Vi S,Vi C] 113)) (.cells #[Vi i,Vi b,.bool o] 116)];exact FrA.new
theorem reach_ok(T R S C i b:Int)(o:Bool)(h0:svE T R S C i b o=0)(w:World):
 Calls prog 245 #[.agg #[Vi T,Vi R,Vi S,Vi C],.agg #[Vi i,Vi b,.bool o]] w (Rt w (.tuple #[.agg #[Vi (loR T R i o),Vi (hiR T R i o)],.nilIface])):=by
 obtain⟨hr,hs⟩:=Wo h0;obtain⟨⟨t0,t1⟩,⟨r0,r1⟩,_,_,_⟩:=Yf hr;have i0:=(Yv hs).1.1;have i1:=(Yv hs).1.2;have m2:=fun ts t p q w=>run_minA ts t p q w;have x2:=fun ts t p q w=>run_maxA ts t p q w;have hck:=Np T R S C i b o;rw[h0,Z2] at hck;have HX:=Za (RSP.new w T R S C i b o);clear hr hs h0
 unfold loR hiR
 cases o
 · simp only[Bool.false_eq_true,if_false]
   go_enter func245,ntmps245
   go_wp2_with (go_at_call 159;refine Sb (hck _) fun w1 hb1=>?_;have HX:=Za (HX.out.later hb1);obtain⟨⟨⟨q0,q1,q2,q3⟩,⟨s0,s1,s2⟩,_⟩,⟨p0,p1⟩,pf,_⟩:=HX.out;have f0:=pf 0 (by omega);have f1:=pf 1 (by omega);clear hb1 pf);exact bodyPost_ret (v:=.tuple #[.agg #[Vi (mxA (i-R) (-T)),Vi (mnA (i+R) T)],.nilIface]) (by simp[results,results245,go_sem,p0,p1]) rfl ⟨rfl,(HX.out.1.2.2.setCell (by simp;omega) _).setCell (by simp;omega) _⟩
 · simp only[if_true]
   go_enter func245,ntmps245
   go_wp2_with (go_at_call 159;refine Sb (hck _) fun w1 hb1=>?_;have HX:=Za (HX.out.later hb1);obtain⟨⟨⟨q0,q1,q2,q3⟩,⟨s0,s1,s2⟩,_⟩,⟨p0,p1⟩,pf,_⟩:=HX.out;have f0:=pf 0 (by omega);have f1:=pf 1 (by omega);clear hb1 pf);exact bodyPost_ret (v:=.tuple #[.agg #[Vi 0,Vi 0],.nilIface]) (by simp[results,results245,go_sem,p0,p1]) rfl ⟨rfl,(HX.out.1.2.2.setCell (by simp;omega) _).setCell (by simp;omega) _⟩
theorem reach_err(T R S C i b:Int)(o:Bool)(h0:svE T R S C i b o≠0)(w:World):
 Calls prog 245 #[.agg #[Vi T,Vi R,Vi S,Vi C],.agg #[Vi i,Vi b,.bool o]] w (Rt w (.tuple #[.agg #[Vi 0,Vi 0],.iface 44 (Vi (svE T R S C i b o))])):=by
 have hck:=Np T R S C i b o;rw[Z4 h0] at hck;have HX:=Za (RSP.new w T R S C i b o);clear h0;generalize svE T R S C i b o=x at*
 go_enter func245,ntmps245
 go_wp2_with (go_at_call 159;refine Sb (hck _) fun w1 hb1=>?_;have HX:=Za (HX.out.later hb1);obtain⟨⟨⟨q0,q1,q2,q3⟩,⟨s0,s1,s2⟩,_⟩,⟨p0,p1⟩,pf,_⟩:=HX.out;have f0:=pf 0 (by omega);have f1:=pf 1 (by omega);clear hb1 pf);exact bodyPost_ret (v:=.tuple #[.agg #[Vi 0,Vi 0],.iface 44 (Vi x)]) (by simp[results,results245,go_sem,p0,p1]) rfl ⟨rfl,(HX.out.1.2.2.setCell (by simp;omega) _).setCell (by simp;omega) _⟩
def RSQ(w0 w:World)(Q:Nat)(T R S C i b:Int)(o:Bool):Prop:=RS w0 w T R S C i b o∧FrA w (w0.heap.size+1) 3∧B3 w Q (Vi 0) (Vi 0) (.bool false)∧FrA w Q 3
theorem RSQ.later{Q:Nat}(h:RSQ w0 w Q T R S C i b o)(hb:Bw w w'):RSQ w0 w' Q T R S C i b o:=⟨h.1.later hb,h.2.1.later hb,h.2.2.1.later hb,h.2.2.2.later hb⟩
theorem frS(w:World)(T R S C i b:Int)(o:Bool):FrA ((w.alloc (.cells #[Vi T,Vi R,Vi S,Vi C] 113)).alloc (.cells #[Vi i,Vi b,.bool o] 116)) (w.heap.size+1) 3:=by
 rw[←size_alloc w (.cells #[Vi T,Vi R,Vi S,Vi C] 113)];exact FrA.new
theorem RSQ.new3(w:World)(T R S C i b:Int)(o y:Bool)(z:Int):RSQ w ((((w.alloc (.cells #[Vi T,Vi R,Vi S,Vi C] 113)).alloc (.cells #[Vi i,Vi b,.bool o] 116)).alloc (.cells #[.bool y,Vi z] 131)).alloc (.cells #[Vi 0,Vi 0,.bool false] 116)) (w.heap.size+1+1+1) T R S C i b o∧B2 ((((w.alloc (.cells #[Vi T,Vi R,Vi S,Vi C] 113)).alloc (.cells #[Vi i,Vi b,.bool o] 116)).alloc (.cells #[.bool y,Vi z] 131)).alloc (.cells #[Vi 0,Vi 0,.bool false] 116)) (w.heap.size+1+1) (.bool y) (Vi z):=by
 have e:(((w.alloc (.cells #[Vi T,Vi R,Vi S,Vi C] 113)).alloc (.cells #[Vi i,Vi b,.bool o] 116)).alloc (.cells #[.bool y,Vi z] 131)).heap.size=w.heap.size+1+1+1:=by simp[go_sem]
 have e2:((w.alloc (.cells #[Vi T,Vi R,Vi S,Vi C] 113)).alloc (.cells #[Vi i,Vi b,.bool o] 116)).heap.size=w.heap.size+1+1:=by simp[go_sem]
 refine⟨⟨((RS.new w T R S C i b o).later (Zb _ _)).later (Zb _ _),((frS w T R S C i b o).later (Zb _ _)).later (Zb _ _),?_,?_⟩,?_⟩
 · rw[←e];exact B3.new _ _ _ _ _
 · rw[←e];exact FrA.new
 · rw[←e2];exact(B2.new _ _ _ _).later (Zb _ _)
def ruleB(m c:Int):Bool:=(decide (0≤m)&&decide (m≤1000000))&&(decide (1≤c)&&decide (c≤10))
theorem ruleB_true{c:Int}(h:ruleB m c=true):(0≤m∧m≤1000000)∧1≤c∧c≤10:=by simp[ruleB] at h;omega
theorem ruleB_false{c:Int}(h:ruleB m c=false):m<0∨1000000<m∨c<1∨10<c:=by simp[ruleB] at h;omega
def Z7(m c:Int):Int:=if ruleB m c then 0 else 1
theorem Ma(m c:Int)(w:World):
 Calls prog 117 #[.agg #[Vi m,Vi c]] w (Rt w (errV (Z7 m c))):=by
 unfold Z7
 by_cases h:ruleB m c=true
 · rw[if_pos h,Z2];obtain⟨⟨h1,h2⟩,h3,h4⟩:=ruleB_true h;clear h
   go_enter func117,ntmps117
   go_wp2;go_ret;exact⟨rfl,Zb _ _⟩
 · rw[if_neg h,Z4 (by decide)];have h':=ruleB_false (by simpa using h);clear h
   by_cases g1:m<0
   · clear h'
     go_enter func117,ntmps117
     go_wp2;go_ret;exact⟨rfl,Zb _ _⟩
   · by_cases g2:1000000<m
     · clear h'
       go_enter func117,ntmps117
       go_wp2;go_ret;exact⟨rfl,Zb _ _⟩
     · by_cases g3:c<1
       · clear h'
         go_enter func117,ntmps117
         go_wp2;go_ret;exact⟨rfl,Zb _ _⟩
       · have g4:10<c:=by omega
         clear h'
         go_enter func117,ntmps117
         go_wp2;go_ret;exact⟨rfl,Zb _ _⟩
theorem ruleMay_any(m c:Int)(w:World):
 Calls prog 87 #[.agg #[Vi m,Vi c]] w (Rt w (Vi (Z7 m c))):=by
 have f1:=Ux m 0 1000000;have f2:=Ux c 1 10
 unfold Z7 ruleB
 generalize (decide (0≤m)&&decide (m≤1000000))=x1 at *;generalize (decide (1≤c)&&decide (c≤10))=x2 at*
 rcases(show x1=false∨(x1=true∧x2=false)∨(x1=true∧x2=true) by cases x1<;>cases x2<;>simp) with rfl|⟨rfl,rfl⟩|⟨rfl,rfl⟩
 all_goals
  go_enter func87,ntmps87
  go_wp2_with (first|((first|go_at_call_of 38 (Vi m)|go_at_call_of 38 (Value.int .i64 m));refine(f1 _).mono ?_;rintro e w' ⟨rfl,rfl⟩)|((first|go_at_call_of 38 (Vi c)|go_at_call_of 38 (Value.int .i64 c));refine(f2 _).mono ?_;rintro e w' ⟨rfl,rfl⟩)|(go_at_call 14;refine(Ww _ _ _).mono ?_;rintro e w' ⟨rfl,rfl⟩));go_ret;exact⟨rfl,Zb _ _⟩
theorem beyond_any(x:Int)(w:World):
 Calls prog 187 #[Vi x] w (Re w (.bool (!Zu x))):=by
 by_cases g1:1000000<x
 · have e:Zu x=false:=by simp[Zu];omega
   rw[e]
   go_enter func187,ntmps187
   go_wp2;go_ret;exact⟨rfl,rfl⟩
 · by_cases g2:x< -1000000
   · have e:Zu x=false:=by simp[Zu];omega
     rw[e]
     go_enter func187,ntmps187
     go_wp2;go_ret;exact⟨by simp,rfl⟩
   · have e:Zu x=true:=by simp[Zu];omega
     rw[e]
     go_enter func187,ntmps187
     go_wp2;go_ret;exact⟨by simp,rfl⟩
def fineB(t:Bool)(s v m:Int):Bool:=t&&(decide (v-m≤s)&&decide (s≤v+m))
theorem isFine_any(t:Bool)(s v m:Int)(hv0:-2000000≤v)(hv1:v≤2000000)(hm0:0≤m)(hm1:m≤1000000)(w:World):
 Calls prog 214 #[.agg #[.bool t,Vi s],Vi v,Vi m] w (Rt w (.bool (fineB t s v m))):=by
 unfold fineB
 cases t
 · go_enter func214,ntmps214
   go_wp2;go_ret;exact⟨rfl,Zb _ _⟩
 · by_cases g1:v-m≤s
   · by_cases g2:s≤v+m
     · rw[decide_eq_true g1,decide_eq_true g2]
       go_enter func214,ntmps214
       go_wp2;go_ret;exact⟨by simp,Zb _ _⟩
     · rw[decide_eq_true g1,decide_eq_false g2]
       go_enter func214,ntmps214
       go_wp2;go_ret;exact⟨by simp,Zb _ _⟩
   · rw[decide_eq_false g1]
     go_enter func214,ntmps214
     go_wp2;go_ret;exact⟨by simp,Zb _ _⟩
def badI(b:Int)(f:Bool):Int:=if f then 0 else if b+1≤10 then b+1 else 10
def outB(b:Int)(f:Bool)(c:Int):Bool:=!f&&decide (c≤badI b f)
theorem judge_any(b c:Int)(f:Bool)(h0:0≤b)(h1:b≤10)(w:World):
 Calls prog 213 #[Vi b,.bool f,Vi c] w (Re w (.tuple #[Vi (badI b f),.bool (outB b f c)])):=by
 unfold outB badI
 cases f
 · by_cases g1:b+1≤10
   · rw[if_neg (by simp),if_pos g1]
     go_enter func213,ntmps213
     go_wp2;go_ret2;exact⟨by first|(simp;done)|(simp;omega),rfl⟩
   · rw[if_neg (by simp),if_neg g1]
     go_enter func213,ntmps213
     go_wp2;go_ret2;exact⟨by first|(simp;done)|(simp;omega),rfl⟩
 · go_enter func213,ntmps213
   go_wp2;go_ret2;exact⟨rfl,rfl⟩
def gb(x:Int):Bool:=decide (0≤x)&&decide (x≤10)
theorem gb_true(h:gb x=true):0≤x∧x≤10:=by simp[gb] at h;omega
def okU(b:Nat→Int):Nat→Bool
 |0=>true
 |k+1=>okU b k&&gb (b k)
theorem okU_false{b:Nat→Int}{k:Nat}(hk:k<3)(h:gb (b k)=false):okU b 3=false:=by
 rcases Qth k with rfl|rfl|rfl<;>simp[okU,h]
theorem okU_true{b:Nat→Int}(h:okU b 3=true):∀k,k<3→0≤b k∧b k≤10:=by
 intro k hk;simp only[okU,Bool.true_and,Bool.and_eq_true] at h
 rcases Qth k with rfl|rfl|rfl
 · exact gb_true h.1.1
 · exact gb_true h.1.2
 · exact gb_true h.2
def Yg(b:Nat→Int)(l:Int):Int:=if okU b 3&&Zu l then 0 else 3
theorem idxI(b:Nat→Int)(k:Nat)(h:k<3)(w:World):(Instr.index 30 (.agg #[Vi (b 0),Vi (b 1),Vi (b 2)]) (Vi k)).run prog w=.ok (Vi (b k)) w:=by
 rcases Qth k with rfl|rfl|rfl<;>kernel_rfl
theorem idxB(o:Nat→Bool)(k:Nat)(h:k<3)(w:World):(Instr.index 31 (.agg #[.bool (o 0),.bool (o 1),.bool (o 2)]) (Vi k)).run prog w=.ok (.bool (o k)) w:=by
 rcases Qth k with rfl|rfl|rfl<;>kernel_rfl
theorem idxS(t:Nat→Bool)(s:Nat→Int)(k:Nat)(h:k<3)(w:World):(Instr.index 185 (.agg (Qav t s)) (Vi k)).run prog w=.ok (.agg #[.bool (t k),Vi (s k)]) w:=by
 rcases Qth k with rfl|rfl|rfl<;>kernel_rfl
theorem Zji(b:Nat→Int)(o:Nat→Bool)(l:Int)(w:World):
 Calls prog 121 #[.agg (Qap b o l)] w (Rt w (errV (Yg b l))):=by
 have HW:Hid (Yg b l=if okU b 3&&Zu l then 0 else 3):=rfl
 go_enter func121,ntmps121
 go_wp2
 go_loop [7] (fun i=>∃k:Nat,k≤3∧i=Vi k∧Hid (okU b k=true)) (fun i=>3-(intOf i).toNat)
 case atStart=>exact⟨0,by omega,rfl,rfl⟩
 case round=>
  obtain⟨k,hk,rfl,hok⟩:=hrel
  by_cases hlt:k<3
  · have hix:=idxI b k hlt
    by_cases hg:gb (b k)=true
    · have HS:Hid (okU b (k+1)=true):=by show(okU b k&&gb (b k))=true;rw[hok.out,hg];rfl
      obtain⟨g0,g1⟩:=gb_true hg;clear hg;generalize b k=z at *;go_wp2
      go_round
      case rel=>exact⟨k+1,by omega,by go_num,HS⟩
      case measure=>simp[intOf];omega
    · have HS:Hid (okU b 3=false):=okU_false hlt (by simpa using hg)
      have hg':b k<0∨10<b k:=by simp[gb] at hg;omega
      clear hg;generalize b k=z at*
      rcases hg' with g|g
      · go_wp2;go_ret;exact⟨by rw[HW.out,HS.out];rfl,Zb _ _⟩
      · go_wp2;go_ret;exact⟨by rw[HW.out,HS.out];rfl,Zb _ _⟩
  · have e:k=3:=by omega
    subst e;have hby:=beyond_any l
    have HL:Hid (Yg b l=if Zu l then 0 else 3):=by show Yg b l=_;rw[HW.out,hok.out,Bool.true_and]
    generalize Zu l=x at*
    cases x
    · go_wp2_with (go_at_call 187;refine Sm (hby _) ?_);go_ret;exact⟨by rw[HL.out];rfl,Zb _ _⟩
    · go_wp2_with (go_at_call 187;refine Sm (hby _) ?_);go_ret;exact⟨by rw[HL.out];rfl,Zb _ _⟩
def Zq(o:Nat→Bool):Nat→Int
 |0=>0
 |k+1=>Zq o k+if o k then 0 else 1
theorem leftU_bd(o:Nat→Bool):∀k:Nat,0≤Zq o k∧Zq o k≤k
 |0=>by simp[Zq]
 |k+1=>by have:=leftU_bd o k;simp only[Zq];split<;>omega
theorem left_any(b:Nat→Int)(o:Nat→Bool)(l:Int)(w:World):
 Calls prog 131 #[.agg (Qap b o l)] w (Rt w (Vi (Zq o 3))):=by
 go_enter func131,ntmps131
 go_wp2
 go_loop [3,8] (fun n i=>∃k:Nat,k≤3∧i=Vi k∧n=Vi (Zq o k)) (fun n i=>3-(intOf i).toNat)
 case atStart=>exact⟨0,by omega,rfl,rfl⟩
 case round=>
  obtain⟨k,hk,rfl,rfl⟩:=hrel
  by_cases hlt:k<3
  · have hix:=idxB o k hlt;have hbd:=leftU_bd o k;have HS:Hid (Zq o (k+1)=Zq o k+if o k then 0 else 1):=rfl;generalize Zq o k=n at *;generalize o k=x at*
    cases x
    · go_wp2
      go_round
      case rel=>exact⟨k+1,by omega,by go_num,by rw[HS.out];rfl⟩
      case measure=>simp[intOf];omega
    · go_wp2
      go_round
      case rel=>exact⟨k+1,by omega,by go_num,by rw[HS.out];simp⟩
      case measure=>simp[intOf];omega
  · have e:k=3:=by omega
    subst e;go_wp2;go_ret;exact⟨rfl,Zb _ _⟩
theorem Zgp(b:Nat→Int)(o:Nat→Bool)(l:Int)(w:World):
 Calls prog 50 #[.agg (Qap b o l)] w (Rt w (Vi (Zq o 3))):=by
 have hc:∀k,k<3→(w.alloc (.cells (Qap b o l) 33)).cell? (Ad w.heap.size (3+k))=some (.bool (o k)):=by
  intro k hk
  rcases Qth k with rfl|rfl|rfl<;>simp[go_sem]
 have HC:Hid _:=hc;clear hc
 go_enter func50,ntmps50
 go_wp2
 go_loop [3,4] (fun n i=>∃k:Nat,k≤3∧i=Vi k∧n=Vi (3-(k:Int)+Zq o k)) (fun n i=>3-(intOf i).toNat)
 case atStart=>exact⟨0,by omega,rfl,by simp[Zq]⟩
 case round=>
  obtain⟨k,hk,rfl,rfl⟩:=hrel
  by_cases hlt:k<3
  · have hcell:=HC.out k hlt;have hbd:=leftU_bd o k;have HS:Hid (Zq o (k+1)=Zq o k+if o k then 0 else 1):=rfl;generalize Zq o k=n at *;generalize o k=x at*
    cases x
    · go_wp2
      go_round
      case rel=>exact⟨k+1,by omega,by go_num,by rw[HS.out];simp only[Bool.false_eq_true,if_false];congr 1;omega⟩
      case measure=>simp[intOf];omega
    · go_wp2
      go_round
      case rel=>exact⟨k+1,by omega,by go_num,by rw[HS.out];simp only[if_true];congr 1;omega⟩
      case measure=>simp[intOf];omega
  · have e:k=3:=by omega
    subst e;go_wp2;go_ret;exact⟨by simp,Zb _ _⟩
theorem U6(x:Int)(h1:-4611686018427387904≤x)(h2:x≤4611686018427387904)(w:World):Calls prog 195 #[Vi x] w (Re w (Vi (max x (-x)))):=by
 by_cases h:x<0
 · have e:max x (-x)=-x:=by omega
   rw[e]
   have g:x< -x:=by omega
   go_enter func195,ntmps195
   go_wp2;go_ret;exact⟨rfl,rfl⟩
 · have e:max x (-x)=x:=by omega
   rw[e]
   have g:¬x< -x:=by omega
   go_enter func195,ntmps195
   go_wp2;go_ret;exact⟨rfl,rfl⟩
theorem refAway_pos(n d:Int)(h0:0≤n)(h1:n≤4611686014132420609)(d0:0<d)(d1:d≤2147483647)(w:World):
 Calls prog 234 #[Vi n,Vi d] w (Re w (Vi (Yx n d))):=by
 have e:Yx n d=(2*n+d)/(2*d):=by unfold Yx;rw[if_neg (by omega)]
 rw[e];clear e
 have hn:¬n<0:=by omega
 go_enter func234,ntmps234
 go_wp2;go_ret;exact⟨rfl,rfl⟩
theorem fnearest_any(n d:Int)(h0:-4611686014132420609≤n)(h1:n≤4611686014132420609)(d0:-2147483647≤d)(d1:d≤2147483647)(hd:d≠0)(w:World):
 Calls prog 138 #[Vi n,Vi d] w fun e w'=>e=.returned (Vi (Yy n d))∧w'=w.drew:=by
 have q:=tdiv_bd n d 4611686014132420609 h0 h1;have r:=tmod_bd n d 2147483647 hd d0 d1;obtain⟨q0,q1⟩:=q;obtain⟨r0,r1⟩:=r
 have hd':(d==0)=false:=by simpa using hd
 by_cases c1:2*max (n.tmod d) (-(n.tmod d))<max d (-d)
 · have e:Yy n d=n.tdiv d:=by unfold Yy;rw[if_pos c1]
   rw[e];clear e
   go_enter func138,ntmps138
   go_wp2
   go_region
   go_wp2_with (go_at_call 195;refine(U6 _ (by omega) (by omega) _).mono ?_;rintro e w' ⟨rfl,rfl⟩);go_ret;exact⟨rfl,rfl⟩
 · by_cases c2:n<0
   · by_cases c3:d<0
     · have e:Yy n d=n.tdiv d+1:=by unfold Yy;rw[if_neg c1,decide_eq_true c2,decide_eq_true c3];rfl
       rw[e];clear e
       go_enter func138,ntmps138
       go_wp2
       go_region
       go_wp2_with (go_at_call 195;refine(U6 _ (by omega) (by omega) _).mono ?_;rintro e w' ⟨rfl,rfl⟩);go_ret;exact⟨rfl,rfl⟩
     · have e:Yy n d=n.tdiv d-1:=by unfold Yy;rw[if_neg c1,decide_eq_true c2,decide_eq_false c3];rfl
       rw[e];clear e;have c3':decide (d<0)=false:=decide_eq_false c3
       go_enter func138,ntmps138
       go_wp2
       go_region
       go_wp2_with (go_at_call 195;refine(U6 _ (by omega) (by omega) _).mono ?_;rintro e w' ⟨rfl,rfl⟩);go_ret;exact⟨rfl,rfl⟩
   · by_cases c3:d<0
     · have e:Yy n d=n.tdiv d-1:=by unfold Yy;rw[if_neg c1,decide_eq_false c2,decide_eq_true c3];rfl
       rw[e];clear e;have c2':decide (n<0)=false:=decide_eq_false c2
       have hn:0≤n:=by omega
       rw[Int.tmod_eq_emod_of_nonneg hn] at c1 r0 r1
       go_enter func138,ntmps138
       go_wp2
       go_region
       go_wp2_with (go_at_call 195;refine(U6 _ (by omega) (by omega) _).mono ?_;rintro e w' ⟨rfl,rfl⟩);go_ret;exact⟨rfl,rfl⟩
     · have e:Yy n d=n.tdiv d+1:=by unfold Yy;rw[if_neg c1,decide_eq_false c2,decide_eq_false c3];rfl
       rw[e];clear e;have c2':decide (n<0)=false:=decide_eq_false c2;have c3':decide (d<0)=false:=decide_eq_false c3
       have hn:0≤n:=by omega
       rw[Int.tmod_eq_emod_of_nonneg hn] at c1 r0 r1;rw[Int.tdiv_eq_ediv_of_nonneg hn] at q0 q1⊢
       go_enter func138,ntmps138
       go_wp2
       go_region
       go_wp2_with (go_at_call 195;refine(U6 _ (by omega) (by omega) _).mono ?_;rintro e w' ⟨rfl,rfl⟩);go_ret;exact⟨rfl,rfl⟩
theorem refAway_any(n d:Int)(h0:-4611686014132420609≤n)(h1:n≤4611686014132420609)(d0:0<d)(d1:d≤2147483647)(w:World):
 Calls prog 234 #[Vi n,Vi d] w (Re w (Vi (Yx n d))):=by
 by_cases hn:n<0
 · have bd:=awayI_bd (n:=-n) (d:=d) (B:=4611686014132420609) d0 (by omega) (by omega);obtain⟨b0,b1⟩:=bd
   have e:Yx n d=-Yx (-n) d:=by rw[awayI_neg n d d0];omega
   rw[e];clear e
   go_enter func234,ntmps234
   go_wp2_with (go_at_call 234;refine(refAway_pos _ _ (by omega) (by omega) d0 d1 _).mono ?_;rintro e w' ⟨rfl,rfl⟩);go_ret;exact⟨rfl,rfl⟩
 · exact refAway_pos n d (by omega) h1 d0 d1 w
theorem fixMul_any(a b:Int)(w:World):Calls prog 85 #[Vi a,Vi b] w fun e w'=>e=.returned (Vi (mulI a b))∧w'=w.drew:=by
 have m:=mul_bd (ofI_lo a) (ofI_hi a) (ofI_lo b) (ofI_hi b);obtain⟨m0,m1⟩:=m;rw[←mul_near]
 go_enter func85,ntmps85
 go_wp2_with (first
  |(go_at_call 137;refine(fixOf_any _ _).mono ?_;rintro e w' ⟨rfl,rfl⟩)
  |(go_at_call 138;refine(fnearest_any _ _ (by omega) (by omega) (by omega) (by omega) (by omega) _).mono ?_;rintro e w' ⟨rfl,rfl⟩))
 go_ret;exact⟨rfl,rfl⟩
theorem refMul_any(a b:Int)(w:World):Calls prog 198 #[Vi a,Vi b] w (Re w (Vi (mulI a b))):=by
 have m:=mul_bd (ofI_lo a) (ofI_hi a) (ofI_lo b) (ofI_hi b);obtain⟨m0,m1⟩:=m
 unfold mulI
 go_enter func198,ntmps198
 go_wp2_with (first
  |(go_at_call 233;refine(refOf_any _ _).mono ?_;rintro e w' ⟨rfl,rfl⟩)
  |(go_at_call 234;refine(refAway_any _ _ (by omega) (by omega) (by omega) (by omega) _).mono ?_;rintro e w' ⟨rfl,rfl⟩))
 go_ret;exact⟨rfl,rfl⟩
end Go.Proofs.YtnfdfiholcelaaaGreatDoor
