import Derived.Deep.RegionHeld3
import Derived.Deep.MidRow
import Derived.WalkKit
import Derived.KernelRfl
import Derived.Test.YtnfdfiholcelaaaGreatDoorProg
import Derived.WalkLawsBesides
import Derived.WalkSpells
import Derived.ProofKit
import Derived.Outline
import Derived.RegionTactic
import Derived.ChangeAlike
import Derived.Deep.QuietTactic
import Derived.BigQuiet
import Derived.Deep.CutRange
import Derived.Deep.DeepCutAuto
import Derived.BigRegion
set_option maxRecDepth 100000
set_option maxHeartbeats 20000000
namespace Go.Proofs.YtnfdfiholcelaaaGreatDoor
open Go.RowKit
abbrev Vi(x:Int):Value:=.int .i64 x
abbrev Ad(b o:Nat):Addr:=⟨b,o,none⟩
theorem Sm{P:Program}{f:Nat}{vs:Array Value}{w u:World}{V:Ending}{Q:Ending→World→Prop}(h:Calls P f vs w fun e w'=>e=V∧w'=u)(k:Q V u):Calls P f vs w Q:=h.mono (by rintro e w' ⟨rfl,rfl⟩;exact k)
theorem Sb{P:Program}{f:Nat}{vs:Array Value}{w:World}{V:Ending}{R:World→Prop}{Q:Ending→World→Prop}(h:Calls P f vs w fun e w'=>e=V∧R w')(k:∀w',R w'→Q V w'):Calls P f vs w Q:=h.mono (by rintro e w' ⟨rfl,h2⟩;exact k w' h2)
theorem Lq{P:Program}{ops:Array Oper}{rest:List Oper}{op:Oper}{a:Act}{w:World}{Q:Exit→Act→World→Prop}(t:TypeId)(x:Operand)(_ho:op.op=.load t x)(h:wpList P ops Q (op::rest) a w):wpList P ops Q (op::rest) a w:=h
theorem Sq{P:Program}{ops:Array Oper}{rest:List Oper}{op:Oper}{a:Act}{w:World}{Q:Exit→Act→World→Prop}(t:TypeId)(x y:Operand)(_ho:op.op=.store t x y)(h:wpList P ops Q (op::rest) a w):wpList P ops Q (op::rest) a w:=h
theorem Wr(x:Int)(h0:-9223372036854775808≤x:=by omega)(h1:x≤9223372036854775807:=by omega):IntKind.i64.wrap x=x:=by rw[IntKind.wrap_i64];omega
def okT(md:Region.Mode)(ops:Array Oper)(listed:Array Bool)(i:Nat):Bool:=Region.noSelect ops&&(Region.free md ops listed i&&(Region.ready md ops listed).contains i)
theorem okT_and{a b c:Bool}(h:(a&&(b&&c))=true):a=true∧b=true∧c=true:=by simpa using h
section
variable {P : Program} {ops : Array Oper} {Q : Exit → Act → World → Prop} {md : Region.Mode} {S : World → Prop} {fuel : Nat} {listed : Array Bool} {a : Act} {w : World}
theorem Tk{oi:Oper}{v:Value}(i:Nat)(hi:ops[i]?=some oi)(hy:YieldsIf P ops S oi v a)(hS:S w)(h:wpAnyH P md ops Q S fuel (listed.setIfInBounds i true) (a.put oi.dst v) w)
    (hf:okT md ops listed i=true:=by kernel_rfl) (hQ:∀c a w,Q (.panic c) (a.put oi.dst v) w→Q (.panic c) a w:=by exact fun _ _ _ h=>h):wpAnyH P md ops Q S (fuel+1) listed a w:=
  wpAnyH_take hi (okT_and hf).1 (okT_and hf).2.1 (okT_and hf).2.2 hQ hy hS h
theorem Tq{oi:Oper}{v:Value}(i:Nat)(hS:S w)(h:wpAnyH P md ops Q S fuel (listed.setIfInBounds i true) (a.put oi.dst v) w)
    (hi:ops[i]?=some oi:=by rfl) (hf:okT md ops listed i=true:=by kernel_rfl) (hQ:∀c a w,Q (.panic c) (a.put oi.dst v) w→Q (.panic c) a w:=by exact fun _ _ _ h=>h)
    (hw:Region.wanted oi (yielded ops a.tmps)=true:=by rfl) (hy:∀w,S w→(execOp a.eval oi).run P w=.ok (.value v) w:=by intro w hSw;clear hSw;go_simp;(try with_reducible rfl)):wpAnyH P md ops Q S (fuel+1) listed a w:=
  wpAnyH_take hi (okT_and hf).1 (okT_and hf).2.1 (okT_and hf).2.2 hQ (.inl ⟨hw,hy⟩) hS h
theorem Tp{oi:Oper}{v:Value}(i:Nat)(hS:S w)(h:wpAnyH P md ops Q S fuel (listed.setIfInBounds i true) (a.put oi.dst v) w)
    (hi:ops[i]?=some oi:=by rfl) (hf:okT md ops listed i=true:=by kernel_rfl) (hQ:∀c a w,Q (.panic c) (a.put oi.dst v) w→Q (.panic c) a w:=by exact fun _ _ _ h=>h)
    (hw:Region.wanted oi (yielded ops a.tmps)=true:=by rfl) (hy:∀w,S w→(execOp a.eval oi).run P w=.ok (.value v) w:=by intro w hSw;(try dsimp only at hSw);go_simp;(try with_reducible rfl)):wpAnyH P md ops Q S (fuel+1) listed a w:=
  wpAnyH_take hi (okT_and hf).1 (okT_and hf).2.1 (okT_and hf).2.2 hQ (.inl ⟨hw,hy⟩) hS h
theorem Th{oi:Oper}{v:Value}(i:Nat)(hi:ops[i]?=some oi)(hy:∀w,S w→(execOp a.eval oi).run P w=.ok (.value v) w)(hS:S w)(h:wpAnyH P md ops Q S fuel (listed.setIfInBounds i true) (a.put oi.dst v) w)
    (hf:okT md ops listed i=true:=by kernel_rfl) (hQ:∀c a w,Q (.panic c) (a.put oi.dst v) w→Q (.panic c) a w:=by exact fun _ _ _ h=>h)
    (hw:Region.wanted oi (yielded ops a.tmps)=true:=by rfl):wpAnyH P md ops Q S (fuel+1) listed a w:=
  wpAnyH_take hi (okT_and hf).1 (okT_and hf).2.1 (okT_and hf).2.2 hQ (.inl ⟨hw,hy⟩) hS h
theorem Ts{oi:Oper}(i:Nat)(hS:S w)(h:wpAnyH P md ops Q S fuel (listed.setIfInBounds i true) (a.put oi.dst undef) w)
    (hi:ops[i]?=some oi:=by rfl) (hf:okT md ops listed i=true:=by kernel_rfl) (hQ:∀c a w,Q (.panic c) (a.put oi.dst undef) w→Q (.panic c) a w:=by exact fun _ _ _ h=>h)
    (hw:Region.wanted oi (yielded ops a.tmps)=false:=by rfl):wpAnyH P md ops Q S (fuel+1) listed a w:=
  wpAnyH_take hi (okT_and hf).1 (okT_and hf).2.1 (okT_and hf).2.2 hQ (.inr ⟨hw,rfl⟩) hS h
theorem Ra{o:Oper}(i:Nat)(h:∀K':Act→World→Prop,Shut (∀a w,S w→(S w→wpAnyH P md ops Q S fuel (listed.setIfInBounds i true) a w)→K' a w)→if Region.wanted o (yielded ops a.tmps)=true then Oper.wp P o a w K' Q else K' (a.put o.dst undef) w)
    (hi:ops[i]?=some o:=by rfl) (hr:Region.ready md ops listed=[i]:=by kernel_rfl):wpAnyH P md ops Q S (fuel+1) listed a w:=
  wpAnyH_ready hr (by simp) (AllReadyH.cons hi h AllReadyH.nil)
theorem Rb{o p:Oper}(i j:Nat)(h:∀K':Act→World→Prop,Shut (∀a w,S w→(S w→wpAnyH P md ops Q S fuel (listed.setIfInBounds i true) a w)→K' a w)→if Region.wanted o (yielded ops a.tmps)=true then Oper.wp P o a w K' Q else K' (a.put o.dst undef) w)
    (k:∀K':Act→World→Prop,Shut (∀a w,S w→(S w→wpAnyH P md ops Q S fuel (listed.setIfInBounds j true) a w)→K' a w)→if Region.wanted p (yielded ops a.tmps)=true then Oper.wp P p a w K' Q else K' (a.put p.dst undef) w)
    (hi:ops[i]?=some o:=by rfl) (hj:ops[j]?=some p:=by rfl) (hr:Region.ready md ops listed=[i,j]:=by kernel_rfl):wpAnyH P md ops Q S (fuel+1) listed a w:=
  wpAnyH_ready hr (by simp) (AllReadyH.cons hi h (AllReadyH.cons hj k AllReadyH.nil))
end
theorem Ly{α:Type}:(∀(xs:List α) (i:Nat) (h:i<xs.toArray.size),xs.toArray[i]=xs[i]'(by simpa using h))∧(∀(x:α) (xs:List α) (i:Nat) (h:i+1<(x::xs).length),(x::xs)[i+1]=xs[i]'(by simpa using h))∧(∀(x:α) (xs:List α) (h:0<(x::xs).length),(x::xs)[0]=x)∧
    (∀(xs:List α) (i:Nat) (x:α),xs.toArray.setIfInBounds i x=(xs.set i x).toArray)∧(∀(x:α) (xs:List α) (i:Nat) (y:α),(x::xs).set (i+1) y=x::xs.set i y)∧(∀(x:α) (xs:List α) (y:α),(x::xs).set 0 y=y::xs):=
  ⟨fun _ _ _=>rfl,fun _ _ _ _=>rfl,fun _ _ _=>rfl,fun _ _ _=>by simp,fun _ _ _ _=>rfl,fun _ _ _=>rfl⟩
end Go.Proofs.YtnfdfiholcelaaaGreatDoor
namespace Go.Proofs.YtnfdfiholcelaaaGreatDoor.Plain
def ofI(x:Int):Int:=if x< -2147483647 then -2147483647 else if 2147483647<x then 2147483647 else x
theorem ofI_lo(x:Int):-2147483647≤ofI x:=by unfold ofI;split<;>(try split)<;>omega
theorem ofI_hi(x:Int):ofI x≤2147483647:=by unfold ofI;split<;>(try split)<;>omega
theorem mul_bd{a b:Int}(ha:-2147483647≤a)(ha':a≤2147483647)(hb:-2147483647≤b)(hb':b≤2147483647):-4611686014132420609≤a*b∧a*b≤4611686014132420609:=by
 have h1:0≤(2147483647-a)*(2147483647+b):=Int.mul_nonneg (by omega) (by omega);have h2:0≤(2147483647+a)*(2147483647-b):=Int.mul_nonneg (by omega) (by omega);have h3:0≤(2147483647-a)*(2147483647-b):=Int.mul_nonneg (by omega) (by omega);have h4:0≤(2147483647+a)*(2147483647+b):=Int.mul_nonneg (by omega) (by omega);simp only[Int.sub_mul,Int.mul_sub,Int.add_mul,Int.mul_add] at h1 h2 h3 h4
 constructor<;>omega
def Zgg(n d:Int):Int:=if n<0 then -((2*(-n)+d)/(2*d)) else(2*n+d)/(2*d)
theorem awayI_neg(n d:Int)(h:0<d):Zgg (-n) d=-Zgg n d:=by
 unfold Zgg
 rcases Int.lt_trichotomy n 0 with h0|h0|h0
 · rw[if_neg (by omega),if_pos h0];omega
 · subst h0;have e:(2*0+d)/(2*d)=0:=Int.ediv_eq_zero_of_lt (by omega) (by omega);simp only[Int.neg_zero,Int.lt_irrefl,if_false];rw[e];rfl
 · rw[if_pos (by omega),if_neg (by omega)];simp
theorem away_div(n d:Int)(hd:0<d)(_hn:0≤n):(2*n+d)/(2*d)=if 2*(n%d)<d then n/d else n/d+1:=by
 have e:=Int.mul_ediv_add_emod n d;have r0:=Int.emod_nonneg n (show d≠0 by omega);have r1:=Int.emod_lt_of_pos n hd
 have:2*n+d=(2*(n%d)+d)+(2*d)*(n/d):=by
  have:2*n=2*(d*(n/d))+2*(n%d):=by omega
  have e2:2*(d*(n/d))=2*d*(n/d):=by rw[Int.mul_assoc]
  omega
 rw[this,Int.add_mul_ediv_left _ _ (by omega)]
 split
 · rw[Int.ediv_eq_zero_of_lt (by omega) (by omega)];omega
 · have:(2*(n%d)+d)/(2*d)=1:=by
    have:2*(n%d)+d=(2*(n%d)-d)+(2*d)*1:=by omega
    rw[this,Int.add_mul_ediv_left _ _ (by omega),Int.ediv_eq_zero_of_lt (by omega) (by omega)];rfl
   omega
theorem awayI_nonneg{n d:Int}(hd:0<d)(hn:0≤n):0≤Zgg n d:=by
 unfold Zgg;rw[if_neg (by omega)];exact Int.ediv_nonneg (by omega) (by omega)
theorem awayI_le{n d:Int}(hd:0<d)(hn:0≤n):Zgg n d≤n:=by
 unfold Zgg;rw[if_neg (by omega),away_div n d hd hn]
 have e:=Int.mul_ediv_add_emod n d;have r0:=Int.emod_nonneg n (show d≠0 by omega);have q0:0≤n/d:=Int.ediv_nonneg hn (by omega)
 have m:n/d≤d*(n/d):=by
  have:0≤(d-1)*(n/d):=Int.mul_nonneg (by omega) q0;rw[Int.sub_mul] at this;omega
 split<;>omega
def Zfs(n d:Int):Int:=if 2*max (n.tmod d) (-(n.tmod d))<max d (-d) then n.tdiv d else if(decide (n<0) != decide (d<0))=true then n.tdiv d-1 else n.tdiv d+1
theorem near_pos(n d:Int)(hd:0<d)(hn:0≤n):Zfs n d=Zgg n d:=by
 unfold Zfs Zgg
 rw[if_neg (show ¬n<0 by omega),away_div n d hd hn,Int.tmod_eq_emod_of_nonneg hn,Int.tdiv_eq_ediv_of_nonneg hn];have r0:=Int.emod_nonneg n (show d≠0 by omega)
 have e1:max (n%d) (-(n%d))=n%d:=by omega
 have e2:max d (-d)=d:=by omega
 rw[e1,e2]
 split
 · rfl
 · rw[if_neg];simp;omega
theorem near_neg(n d:Int)(hd:0<d):Zfs (-n) d=-Zfs n d:=by
 by_cases h:n=0
 · subst h;unfold Zfs;simp;omega
 · unfold Zfs
   rw[Int.neg_tmod,Int.neg_tdiv]
   have e1:max (-(n.tmod d)) (- -(n.tmod d))=max (n.tmod d) (-(n.tmod d)):=by omega
   rw[e1]
   by_cases hn:n<0
   · have h1:decide (-n<0)=false:=by simp;omega
     have h2:decide (n<0)=true:=by simp;omega
     have h3:decide (d<0)=false:=by simp;omega
     rw[h1,h2,h3];split
     · rfl
     · simp;omega
   · have h1:decide (-n<0)=true:=by simp;omega
     have h2:decide (n<0)=false:=by simp;omega
     have h3:decide (d<0)=false:=by simp;omega
     rw[h1,h2,h3];split
     · rfl
     · simp;omega
theorem near_away(n d:Int)(hd:0<d):Zfs n d=Zgg n d:=by
 by_cases hn:0≤n
 · exact near_pos n d hd hn
 · have:=near_pos (-n) d hd (by omega);rw[near_neg n d hd,awayI_neg n d hd] at this;omega
def mulI(a b:Int):Int:=ofI (Zgg (ofI a*ofI b) 256)
theorem mul_near(a b:Int):ofI (Zfs (ofI a*ofI b) 256)=mulI a b:=by unfold mulI;rw[near_away _ _ (by omega)]
theorem tdiv_bd(n d B:Int)(h1:-B≤n)(h2:n≤B):-B≤n.tdiv d∧n.tdiv d≤B:=by
 have h:(n.tdiv d).natAbs≤n.natAbs:=by rw[Int.natAbs_tdiv];exact Nat.div_le_self _ _
 omega
theorem tmod_bd(n d B:Int)(hd:d≠0)(h1:-B≤d)(h2:d≤B):-B≤n.tmod d∧n.tmod d≤B:=by
 have h:(n.tmod d).natAbs<d.natAbs:=by rw[Int.natAbs_tmod];exact Nat.mod_lt _ (by omega)
 omega
theorem awayI_bd{n d B:Int}(hd:0<d)(h1:-B≤n)(h2:n≤B):-B≤Zgg n d∧Zgg n d≤B:=by
 by_cases hn:0≤n
 · have:=awayI_nonneg hd hn;have:=awayI_le hd hn;omega
 · have a:=awayI_nonneg (n:=-n) hd (by omega);have b:=awayI_le (n:=-n) hd (by omega);rw[awayI_neg n d hd] at a b;omega
end Go.Proofs.YtnfdfiholcelaaaGreatDoor.Plain
namespace Go.Proofs.YtnfdfiholcelaaaGreatDoor
open Go.RowKit Plain Tryz
def Zal(x lo hi:Int):Int:=if x<lo then lo else if hi<lo then lo else if hi<x then hi else x
theorem Zay(x lo hi:Int)(w:World):Calls prog 172 #[Vi x,Vi lo,Vi hi] w fun e w'=>e=.returned (Vi (Zal x lo hi))∧w'=w:=by
 unfold Zal
 by_cases h1:x<lo
 · rw[if_pos h1]
   go_enter func172,ntmps172
   go_wp2;go_ret;exact⟨rfl,rfl⟩
 · rw[if_neg h1]
   by_cases h2:hi<lo
   · rw[if_pos h2]
     go_enter func172,ntmps172
     go_wp2;go_ret;exact⟨rfl,rfl⟩
   · rw[if_neg h2]
     by_cases h3:hi<x
     · rw[if_pos h3]
       go_enter func172,ntmps172
       go_wp2;go_ret;exact⟨rfl,rfl⟩
     · rw[if_neg h3]
       go_enter func172,ntmps172
       go_wp2;go_ret;exact⟨rfl,rfl⟩
theorem Zax(x lo hi:Int)(h:lo≤hi)(w:World):Calls prog 94 #[Vi x,Vi lo,Vi hi] w fun e w'=>e=.returned (Vi (Zal x lo hi))∧w'=w:=by
 unfold Zal
 by_cases h1:x<lo
 · rw[if_pos h1]
   by_cases h3:hi<lo
   · omega
   · go_enter func94,ntmps94
     go_wp2;go_ret;exact⟨rfl,rfl⟩
 · rw[if_neg h1,if_neg (show ¬hi<lo by omega)]
   by_cases h3:hi<x
   · rw[if_pos h3]
     go_enter func94,ntmps94
     go_wp2;go_ret;exact⟨rfl,rfl⟩
   · rw[if_neg h3]
     go_enter func94,ntmps94
     go_wp2;go_ret;exact⟨rfl,rfl⟩
theorem clip_of(x:Int):Zal x (-2147483647) 2147483647=ofI x:=by
 unfold Zal ofI;rw[if_neg (show ¬((2147483647:Int)< -2147483647) by omega)]
theorem fixOf_any(x:Int)(w:World):Calls prog 137 #[Vi x] w fun e w'=>e=.returned (Vi (ofI x))∧w'=w:=by
 go_enter func137,ntmps137
 go_wp2_with (go_at_call 172;refine(Zay _ _ _ _).mono ?_;rintro e w' ⟨rfl,rfl⟩);go_ret;rw[clip_of];exact⟨rfl,rfl⟩
theorem refOf_any(x:Int)(w:World):Calls prog 233 #[Vi x] w fun e w'=>e=.returned (Vi (ofI x))∧w'=w:=by
 go_enter func233,ntmps233
 go_wp2_with (go_at_call 94;refine(Zax _ _ _ (by omega) _).mono ?_;rintro e w' ⟨rfl,rfl⟩);go_ret;rw[clip_of];exact⟨rfl,rfl⟩
end Go.Proofs.YtnfdfiholcelaaaGreatDoor
namespace Go.Proofs.YtnfdfiholcelaaaGreatDoor.Plain
def at0(l:List Int)(k:Nat):Int:=l.getD k 0
def Zba(x:Int):Bool:=decide (-1000000≤x)&&decide (x≤1000000)
theorem Zdl{x:Int}(h:Zba x=true):-1000000≤x∧x≤1000000:=by simp[Zba] at h;omega
def Zbi(l:List Int):Int:=if l.all Zba then 0 else 1
theorem worth_step(l:List Int)(k:Nat)(h:k<l.length):Zbi (l.drop k)=if Zba (at0 l k) then Zbi (l.drop (k+1)) else 1:=by
 rw[List.drop_eq_getElem_cons h]
 have e:at0 l k=l[k]:=by rw[at0,List.getD_eq_getElem?_getD,List.getElem?_eq_getElem h];rfl
 rw[e];unfold Zbi;rw[List.all_cons]
 cases Zba l[k]<;>simp
theorem Zbr{l:List Int}(h:Zbi l=0)(k:Nat)(hk:k<l.length):-1000000≤at0 l k∧at0 l k≤1000000:=by
 have e:at0 l k=l[k]:=by rw[at0,List.getD_eq_getElem?_getD,List.getElem?_eq_getElem hk];rfl
 have a:l.all Zba=true:=by
  unfold Zbi at h;split at h
  · assumption
  · omega
 rw[e];exact Zdl (List.all_eq_true.mp a _ (List.getElem_mem hk))
theorem Zfh(l:List Int):Zbi l=0∨Zbi l=1:=by unfold Zbi;split<;>simp
def Zbt(l:List Int):Nat→Bool
 |0=>false
 |n+1=>Zbt l n||decide (at0 l (n+1)≤at0 l n)
theorem falls_of_lt{l:List Int}:∀{n:Nat},Zbt l n=false→∀k,k<n→at0 l k<at0 l (k+1)
 |0,_,k,hk=>by omega
 |n+1,h,k,hk=>by
  simp only[Zbt,Bool.or_eq_false_iff,decide_eq_false_iff_not] at h
  by_cases e:k=n
  · subst e;omega
  · exact falls_of_lt h.1 k (by omega)
def Zbp(l:List Int):Int:=if l.length<2 then 3 else if 8<l.length then 2 else if Zbi l=0 then(if Zbt l (l.length-1) then 3 else 0) else 1
structure Places (l:List Int):Prop where
 lo:2≤l.length
 hi:l.length≤8
 worth:Zbi l=0
 up:∀k,k+1<l.length→at0 l k<at0 l (k+1)
theorem places_of{l:List Int}(h:Zbp l=0):Places l:=by
 unfold Zbp at h
 split at h
 · omega
 · split at h
   · omega
   · split at h
     · split at h
       · omega
       · exact⟨by omega,by omega,by assumption,fun k hk=>falls_of_lt (n:=l.length-1) (by cases e:Zbt l (l.length-1)<;>simp_all) k (by omega)⟩
     · omega
theorem Places.mono{l:List Int}(p:Places l):∀{j k:Nat},j<k→k<l.length→at0 l j<at0 l k:=by
 intro j k hjk
 induction k with
 |zero=>omega
 |succ k ih=>
  intro hk;have:=p.up k hk
  by_cases e:j=k
  · subst e;exact this
  · have:=ih (by omega) (by omega);omega
theorem Places.monole{l:List Int}(p:Places l){j k:Nat}(h:j≤k)(hk:k<l.length):at0 l j≤at0 l k:=by
 by_cases e:j=k
 · subst e;omega
 · have:=p.mono (show j<k by omega) hk;omega
def Zdw(a i:List Int):Int:=if a.length=i.length then(if Zbp a=0 then Zbi i else Zbp a) else 3
theorem line_of{a i:List Int}(h:Zdw a i=0):a.length=i.length∧Places a∧Zbi i=0:=by
 unfold Zdw at h
 split at h
 · split at h
   · exact⟨by assumption,places_of (by assumption),h⟩
   · omega
 · omega
def upI(n d:Int):Int:=(2*n+d)/(2*d)
theorem upI_rem(n d:Int)(hd:0<d):upI n d=if d-n%d≤n%d then n/d+1 else n/d:=by
 unfold upI
 have e:=Int.mul_ediv_add_emod n d;have r0:=Int.emod_nonneg n (show d≠0 by omega);have r1:=Int.emod_lt_of_pos n hd
 have:2*n+d=(2*(n%d)+d)+(2*d)*(n/d):=by
  have:2*n=2*(d*(n/d))+2*(n%d):=by omega
  have e2:2*(d*(n/d))=2*d*(n/d):=by rw[Int.mul_assoc]
  omega
 rw[this,Int.add_mul_ediv_left _ _ (by omega)]
 split
 · have:(2*(n%d)+d)/(2*d)=1:=by
    have:2*(n%d)+d=(2*(n%d)-d)+(2*d)*1:=by omega
    rw[this,Int.add_mul_ediv_left _ _ (by omega),Int.ediv_eq_zero_of_lt (by omega) (by omega)];rfl
   omega
 · rw[Int.ediv_eq_zero_of_lt (by omega) (by omega)];omega
def nearT(n d:Int):Int:=
 if n.tmod d<0 then(if d-(n.tmod d+d)≤n.tmod d+d then n.tdiv d-1+1 else n.tdiv d-1)
 else(if d-n.tmod d≤n.tmod d then n.tdiv d+1 else n.tdiv d)
theorem tdm(n d:Int)(hd:0<d):(n.tmod d<0→n%d=n.tmod d+d∧n/d=n.tdiv d-1)∧(¬n.tmod d<0→n%d=n.tmod d∧n/d=n.tdiv d):=by
 have e:=Int.mul_tdiv_add_tmod n d
 have b:(n.tmod d).natAbs<d.natAbs:=by rw[Int.natAbs_tmod];exact Nat.mod_lt _ (by omega)
 constructor
 · intro h
   have h1:n=(n.tmod d+d)+d*(n.tdiv d-1):=by rw[Int.mul_sub];omega
   constructor
   · conv=>lhs;rw[h1]
     rw[Int.add_mul_emod_self_left,Int.emod_eq_of_lt (by omega) (by omega)]
   · conv=>lhs;rw[h1]
     rw[Int.add_mul_ediv_left _ _ (by omega),Int.ediv_eq_zero_of_lt (by omega) (by omega)];omega
 · intro h
   have h1:n=n.tmod d+d*n.tdiv d:=by omega
   constructor
   · conv=>lhs;rw[h1]
     rw[Int.add_mul_emod_self_left,Int.emod_eq_of_lt (by omega) (by omega)]
   · conv=>lhs;rw[h1]
     rw[Int.add_mul_ediv_left _ _ (by omega),Int.ediv_eq_zero_of_lt (by omega) (by omega)];omega
theorem near_up(n d:Int)(hd:0<d):nearT n d=upI n d:=by
 rw[upI_rem n d hd];unfold nearT
 by_cases h:n.tmod d<0
 · obtain⟨e1,e2⟩:=(tdm n d hd).1 h;rw[if_pos h,e1,e2]
 · obtain⟨e1,e2⟩:=(tdm n d hd).2 h;rw[if_neg h,e1,e2]
theorem upI_exact(k d:Int)(hd:0<d):upI (k*d) d=k:=by
 unfold upI
 have:2*(k*d)+d=d+2*d*k:=by rw[Int.mul_assoc,Int.mul_comm d k];omega
 rw[this,Int.add_mul_ediv_left _ _ (by omega),Int.ediv_eq_zero_of_lt (by omega) (by omega)];omega
def standF(l:List Int)(c:Int):Nat→Nat→Nat
 |0,i=>i
 |f+1,i=>if i+2<l.length∧at0 l (i+1)≤c then standF l c f (i+1) else i
def standI(l:List Int)(c:Int):Nat:=standF l c l.length 0
structure Stands (l:List Int) (c:Int) (i:Nat):Prop where
 lt:i+1<l.length
 past:at0 l i≤c
 left:c≤at0 l (i+1)
 next:i+2<l.length→c<at0 l (i+1)
theorem Ziq{l:List Int}{c:Int}(h1:c≤at0 l (l.length-1)):∀(f i:Nat),l.length≤f+i+2→i+1<l.length→at0 l i≤c→Stands l c (standF l c f i)
 |0,i,hf,hi,hp=>by
  have e:i+1=l.length-1:=by omega
  exact⟨hi,hp,by simp only[standF];rw[e];exact h1,fun h=>by simp only[standF] at h;omega⟩
 |f+1,i,hf,hi,hp=>by
  simp only[standF]
  split
  · rename_i h;exact Ziq h1 f (i+1) (by omega) (by omega) h.2
  · rename_i h
    by_cases e:i+2<l.length
    · have:¬at0 l (i+1)≤c:=fun q=>h ⟨e,q⟩;exact⟨hi,hp,by omega,fun _=>by omega⟩
    · have q:i+1=l.length-1:=by omega
      exact⟨hi,hp,by rw[q];exact h1,fun h=>by omega⟩
theorem standI_stands{l:List Int}{c:Int}(p:Places l)(h0:at0 l 0≤c)(h1:c≤at0 l (l.length-1)):Stands l c (standI l c):=
 Ziq h1 _ 0 (by omega) (by have:=p.lo;omega) h0
theorem Stands.unique{l:List Int}{c:Int}(p:Places l){i j:Nat}(a:Stands l c i)(b:Stands l c j):i=j:=by
 rcases Nat.lt_trichotomy i j with h|h|h
 · have:=a.next (by have:=b.lt;omega);have:=p.monole (show i+1≤j by omega) (by have:=b.lt;omega);have:=b.past;omega
 · exact h
 · have:=b.next (by have:=a.lt;omega);have:=p.monole (show j+1≤i by omega) (by have:=a.lt;omega);have:=a.past;omega
def clipT(x lo hi:Int):Int:=if x<lo then lo else if hi<lo then lo else if hi<x then hi else x
def Zdf(l:List Int)(x:Int):Int:=clipT x (at0 l 0) (at0 l (l.length-1))
theorem clipE_bd{l:List Int}(p:Places l)(x:Int):at0 l 0≤Zdf l x∧Zdf l x≤at0 l (l.length-1):=by
 have:=p.mono (show 0<l.length-1 by have:=p.lo;omega) (by have:=p.lo;omega)
 unfold Zdf clipT;split<;>(try split)<;>(try split)<;>omega
theorem clipE_id{l:List Int}{x:Int}(h0:at0 l 0≤x)(h1:x≤at0 l (l.length-1)):Zdf l x=x:=by
 unfold Zdf clipT;rw[if_neg (by omega),if_neg (by omega),if_neg (by omega)]
def Zek(a z:List Int)(c:Int)(i:Nat):Int:=upI (at0 z i*(at0 a (i+1)-c)+at0 z (i+1)*(c-at0 a i)) (at0 a (i+1)-at0 a i)
def Zfw(a z:List Int)(x:Int):Int:=Zek a z (Zdf a x) (standI a (Zdf a x))
theorem Zfv{a z:List Int}(p:Places a){x:Int}{i:Nat}(s:Stands a (Zdf a x) i):Zfw a z x=Zek a z (Zdf a x) i:=by
 have b:=clipE_bd p x;rw[Zfw,(standI_stands p b.1 b.2).unique p s]
theorem height_left{a z:List Int}{i:Nat}(h:at0 a i<at0 a (i+1)):Zek a z (at0 a i) i=at0 z i:=by
 unfold Zek;rw[Int.sub_self,Int.mul_zero,Int.add_zero,upI_exact _ _ (by omega)]
theorem height_right{a z:List Int}{i:Nat}(h:at0 a i<at0 a (i+1)):Zek a z (at0 a (i+1)) i=at0 z (i+1):=by
 unfold Zek;rw[Int.sub_self,Int.mul_zero,Int.zero_add,upI_exact _ _ (by omega)]
theorem look_point{a z:List Int}(p:Places a)(k:Nat)(hk:k<a.length):Zfw a z (at0 a k)=at0 z k:=by
 have h0:=p.monole (Nat.zero_le k) hk;have h1:=p.monole (show k≤a.length-1 by omega) (by omega);have e:=clipE_id h0 h1;have l2:=p.lo
 by_cases hl:k+1<a.length
 · have s:Stands a (Zdf a (at0 a k)) k:=by
    rw[e];exact⟨hl,by omega,by have:=p.up k hl;omega,fun _=>p.up k hl⟩
   rw[Zfv p s,e,height_left (p.up k hl)]
 · obtain⟨j,rfl⟩:∃j,k=j+1:=⟨k-1,by omega⟩
   have s:Stands a (Zdf a (at0 a (j+1))) j:=by
    rw[e];exact⟨hk,by have:=p.up j hk;omega,by omega,fun h=>by omega⟩
   rw[Zfv p s,e,height_right (p.up j hk)]
theorem look_last{a z:List Int}(p:Places a){x:Int}(h:at0 a (a.length-1)≤x):Zfw a z x=at0 z (a.length-1):=by
 have l2:=p.lo;have m:=p.mono (show 0<a.length-1 by omega) (by omega)
 have e:Zdf a x=Zdf a (at0 a (a.length-1)):=by
  rw[clipE_id (l:=a) (x:=at0 a (a.length-1)) (by omega) (by omega)];unfold Zdf clipT;split<;>(try split)<;>(try split)<;>omega
 rw[Zfw,e,←Zfw,look_point p _ (by omega)]
theorem look_first{a z:List Int}(p:Places a){x:Int}(h:x≤at0 a 0):Zfw a z x=at0 z 0:=by
 have l2:=p.lo;have m:=p.mono (show 0<a.length-1 by omega) (by omega)
 have e:Zdf a x=Zdf a (at0 a 0):=by
  rw[clipE_id (l:=a) (x:=at0 a 0) (by omega) (by omega)];unfold Zdf clipT;split<;>(try split)<;>(try split)<;>omega
 rw[Zfw,e,←Zfw,look_point p _ (by omega)]
theorem look_mid{a z:List Int}(p:Places a){x:Int}{i:Nat}(h0:at0 a 0≤x)(h1:x≤at0 a (a.length-1))(s:Stands a x i):Zfw a z x=Zek a z x i:=by
 have e:=clipE_id h0 h1;rw[Zfv p (i:=i) (by rw[e];exact s),e]
theorem mul_bdT{a b A B:Int}(ha:-A≤a)(ha':a≤A)(hb:-B≤b)(hb':b≤B):-(A*B)≤a*b∧a*b≤A*B:=by
 have h1:0≤(A-a)*(B+b):=Int.mul_nonneg (by omega) (by omega);have h2:0≤(A+a)*(B-b):=Int.mul_nonneg (by omega) (by omega);have h3:0≤(A-a)*(B-b):=Int.mul_nonneg (by omega) (by omega);have h4:0≤(A+a)*(B+b):=Int.mul_nonneg (by omega) (by omega);simp only[Int.sub_mul,Int.mul_sub,Int.add_mul,Int.mul_add] at h1 h2 h3 h4
 constructor<;>omega
end Go.Proofs.YtnfdfiholcelaaaGreatDoor.Plain
namespace Go.Proofs.YtnfdfiholcelaaaGreatDoor
open Go.RowKit Plain Tryz
theorem nearest_any(n d:Int)(h0:-4611686018427387904≤n)(h1:n≤4611686018427387904)(d0:0<d)(d1:d≤4000000000000)(w:World):
 Calls prog 282 #[Vi n,Vi d] w fun e w'=>e=.returned (Vi (upI n d))∧∃k,w'=w.drewN k:=by
 have q:-4611686018427387904≤n.tdiv d∧n.tdiv d≤4611686018427387904:=by
  have h:(n.tdiv d).natAbs≤n.natAbs:=by rw[Int.natAbs_tdiv];exact Nat.div_le_self _ _
  omega
 have r:-4000000000000≤n.tmod d∧n.tmod d≤4000000000000:=by
  have h:(n.tmod d).natAbs<d.natAbs:=by rw[Int.natAbs_tmod];exact Nat.mod_lt _ (by omega)
  omega
 obtain⟨q0,q1⟩:=q;obtain⟨r0,r1⟩:=r
 have hd':(d==0)=false:=by simp;omega
 rw[←near_up n d d0]
 by_cases c1:n.tmod d<0
 · by_cases c2:d-(n.tmod d+d)≤n.tmod d+d
   · have e:nearT n d=n.tdiv d:=by unfold nearT;rw[if_pos c1,if_pos c2];omega
     rw[e];clear e
     go_enter func282,ntmps282
     go_wp2;go_quiet (fail);go_wp2;go_ret;exact⟨rfl,_,rfl⟩
   · have e:nearT n d=n.tdiv d-1:=by unfold nearT;rw[if_pos c1,if_neg c2]
     rw[e];clear e
     go_enter func282,ntmps282
     go_wp2;go_quiet (fail);go_wp2;go_ret;exact⟨rfl,_,rfl⟩
 · by_cases c2:d-n.tmod d≤n.tmod d
   · have e:nearT n d=n.tdiv d+1:=by unfold nearT;rw[if_neg c1,if_pos c2]
     rw[e];clear e
     go_enter func282,ntmps282
     go_wp2;go_quiet (fail);go_wp2;go_ret;exact⟨rfl,_,rfl⟩
   · have e:nearT n d=n.tdiv d:=by unfold nearT;rw[if_neg c1,if_neg c2]
     rw[e];clear e
     go_enter func282,ntmps282
     go_wp2;go_quiet (fail);go_wp2;go_ret;exact⟨rfl,_,rfl⟩
theorem pick_any(n d:Int)(d0:0<d)(d1:d≤8000000000000)(w:World):
 Calls prog 24 #[Vi n,Vi d] w fun e w'=>e=.returned (Vi (n%d))∧w'=w:=by
 have r:-8000000000000≤n.tmod d∧n.tmod d≤8000000000000:=by
  have h:(n.tmod d).natAbs<d.natAbs:=by rw[Int.natAbs_tmod];exact Nat.mod_lt _ (by omega)
  omega
 obtain⟨r0,r1⟩:=r
 have hd':(d==0)=false:=by simp;omega
 by_cases c1:n.tmod d<0
 · rw[((tdm n d d0).1 c1).1]
   go_enter func24,ntmps24
   go_wp2;go_ret;exact⟨rfl,rfl⟩
 · rw[((tdm n d d0).2 c1).1]
   go_enter func24,ntmps24
   go_wp2;go_ret;exact⟨rfl,rfl⟩
theorem down_cut(n d:Int)(d0:0<d):(n-n%d).tdiv d=n/d:=by
 have e:=Int.mul_ediv_add_emod n d
 have:n-n%d=(n/d)*d:=by rw[Int.mul_comm];omega
 rw[this,Int.mul_tdiv_cancel _ (by omega)]
theorem down_any(n d:Int)(h0:-9200000000000000000≤n)(h1:n≤9200000000000000000)(d0:0<d)(d1:d≤8000000000000)(w:World):
 Calls prog 141 #[Vi n,Vi d] w fun e w'=>e=.returned (Vi (n/d))∧w'=w:=by
 have hd':(d==0)=false:=by simp;omega
 have m0:=Int.emod_nonneg n (show d≠0 by omega);have m1:=Int.emod_lt_of_pos n d0;rw[←down_cut n d d0]
 have q:-9223372036854775807≤(n-n%d).tdiv d∧(n-n%d).tdiv d≤9223372036854775807:=by
  have h:((n-n%d).tdiv d).natAbs≤(n-n%d).natAbs:=by rw[Int.natAbs_tdiv];exact Nat.div_le_self _ _
  omega
 obtain⟨q0,q1⟩:=q
 go_enter func141,ntmps141
 go_wp2_with (go_at_call 24;refine(pick_any _ _ d0 d1 _).mono ?_;rintro e w' ⟨rfl,rfl⟩);go_ret;exact⟨rfl,rfl⟩
theorem up_any(n d:Int)(h0:-4500000000000000000≤n)(h1:n≤4500000000000000000)(d0:0<d)(d1:d≤4000000000000)(w:World):
 Calls prog 199 #[Vi n,Vi d] w fun e w'=>e=.returned (Vi (upI n d))∧w'=w:=by
 unfold upI
 go_enter func199,ntmps199
 go_wp2_with (go_at_call 141;refine(down_any _ _ (by omega) (by omega) (by omega) (by omega) _).mono ?_;rintro e w' ⟨rfl,rfl⟩);go_ret;exact⟨rfl,rfl⟩
theorem Zbo(e:Int)(w:World):Calls prog 14 #[.bool true,Vi e] w fun r w'=>r=.returned (Vi e)∧w'=w:=by
 go_enter func14,ntmps14
 go_wp2;go_ret;exact⟨rfl,rfl⟩
theorem Zbv(e:Int)(w:World):Calls prog 14 #[.bool false,Vi e] w fun r w'=>r=.returned (Vi 0)∧w'=w:=by
 go_enter func14,ntmps14
 go_wp2;go_ret;exact⟨rfl,rfl⟩
theorem Zcr(b:Bool)(e:Int)(w:World):Calls prog 14 #[.bool b,Vi e] w fun r w'=>r=.returned (Vi (if b then e else 0))∧w'=w:=by
 cases b
 · exact Zbv e w
 · exact Zbo e w
theorem when_named(b:Bool)(e:Int)(w:World):Calls prog 14 #[.bool b,Vi e] w fun r w'=>∃x,r=.returned (Vi x)∧Hid (x=if b then e else 0)∧w'=w:=
 (Zcr b e w).mono fun _ _ ⟨h1,h2⟩=>⟨_,h1,rfl,h2⟩
def errV(e:Int):Value:=if e=0 then .nilIface else .iface 44 (Vi e)
theorem Zar:errV 0=.nilIface:=rfl
theorem Zbg{e:Int}(h:e≠0):errV e=.iface 44 (Vi e):=by unfold errV;rw[if_neg h]
theorem code_nil(w:World):Calls prog 63 #[.nilIface] w fun r w'=>r=.returned (Vi 0)∧w'=w:=by
 go_enter func63,ntmps63
 go_wp2;go_ret;exact⟨rfl,rfl⟩
theorem as_errno(v:Value)(w:World):(Instr.typeAssert (.iface 44 v) 51 44 true).run prog w=.ok (.tuple #[v,.bool true]) w:=by kernel_rfl
theorem code_errno(x:Int)(w:World):Calls prog 63 #[.iface 44 (Vi x)] w fun r w'=>r=.returned (Vi x)∧w'=w:=by
 have ta:=as_errno (Vi x)
 go_enter func63,ntmps63
 go_wp2;go_ret;exact⟨rfl,rfl⟩
theorem code_any(x:Int)(w:World):Calls prog 63 #[errV x] w fun r w'=>r=.returned (Vi x)∧w'=w:=by
 by_cases h:x=0
 · subst h;exact code_nil w
 · rw[Zbg h];exact code_errno x w
theorem is_any(x e:Int)(w:World):Calls prog 17 #[errV x,Vi e] w fun r w'=>r=.returned (.bool (x==e))∧w'=w:=by
 go_enter func17,ntmps17
 go_wp2_with (go_at_call 63;refine(code_any _ _).mono ?_;rintro e w' ⟨rfl,rfl⟩);go_ret;exact⟨rfl,rfl⟩
theorem Zdp(x lo hi:Int)(w:World):
 Calls prog 38 #[Vi x,Vi lo,Vi hi] w fun e w'=>e=.returned (.bool (decide (lo≤x)&&decide (x≤hi)))∧w'=w:=by
 by_cases g1:lo≤x
 · by_cases g2:x≤hi
   · rw[decide_eq_true g1,decide_eq_true g2]
     go_enter func38,ntmps38
     go_wp2;go_ret;exact⟨rfl,rfl⟩
   · rw[decide_eq_true g1,decide_eq_false g2]
     go_enter func38,ntmps38
     go_wp2;go_ret;exact⟨by simp,rfl⟩
 · rw[decide_eq_false g1]
   go_enter func38,ntmps38
   go_wp2;go_ret;exact⟨rfl,rfl⟩
theorem Zgf(x:Int)(w:World):
 Calls prog 38 #[Vi x,Vi (-1000000),Vi 1000000] w fun e w'=>e=.returned (.bool (Zba x))∧w'=w:=Zdp x _ _ w
theorem isBeyond_any(x:Int)(w:World):
 Calls prog 266 #[Vi x] w fun e w'=>e=.returned (.bool (!Zba x))∧w'=w:=by
 by_cases g1:1000000<x
 · have e:Zba x=false:=by simp[Zba];omega
   rw[e]
   go_enter func266,ntmps266
   go_wp2;go_ret;exact⟨rfl,rfl⟩
 · by_cases g2:x< -1000000
   · have e:Zba x=false:=by simp[Zba];omega
     rw[e]
     go_enter func266,ntmps266
     go_wp2;go_ret;exact⟨by simp,rfl⟩
   · have e:Zba x=true:=by simp[Zba];omega
     rw[e]
     go_enter func266,ntmps266
     go_wp2;go_ret;exact⟨by simp,rfl⟩
theorem nan_any(x:Int)(w:World):Calls prog 238 #[Vi x] w fun e w'=>e=.returned (.bool false)∧w'=w:=by
 have e:(x != x)=false:=by simp
 go_enter func238,ntmps238
 go_wp2;go_ret;exact⟨by simp,rfl⟩
def Zap:List Int→Int
 |[]=>0
 |x::l=>if x=0 then Zap l else x
theorem first_step(zs:List Int)(k:Nat)(h:k<zs.length):Zap (zs.drop k)=if zs.getD k 0=0 then Zap (zs.drop (k+1)) else zs.getD k 0:=by
 rw[List.drop_eq_getElem_cons h,List.getD_eq_getElem?_getD,List.getElem?_eq_getElem h];rfl
theorem first_any(b off cap:Nat)(zs:List Int)(w:World)(hm:zs.length≤9223372036854775807)(hc:∀k,k<zs.length→w.cell? (Ad b (off+k))=some (Vi (zs.getD k 0))):
 Calls prog 13 #[.slice (some (Ad b off)) zs.length cap] w fun r w'=>r=.returned (Vi (Zap zs))∧w'=w:=by
 have HC:Hid (∀k,k<zs.length→w.cell? (Ad b (off+k))=some (Vi (zs.getD k 0))):=hc;clear hc
 go_enter func13,ntmps13
 go_wp2
 go_loop [3] (fun i=>∃k:Nat,k≤zs.length∧i=Vi k∧Hid (Zap zs=Zap (zs.drop k))) (fun i=>zs.length-(intOf i).toNat)
 case atStart=>exact⟨0,Nat.zero_le _,rfl,by show Zap zs=Zap (zs.drop 0);rw[List.drop_zero]⟩
 case round=>
  obtain⟨k,hk,rfl,hf⟩:=hrel
  by_cases hlt:k<zs.length
  · have hcell:=HC.out k hlt;have hs:=first_step zs k hlt;generalize zs.getD k 0=z at hcell hs
    by_cases hz:z=0
    · subst hz;rw[if_pos rfl] at hs;have HS:Hid (Zap zs=Zap (zs.drop (k+1))):=hf.out.trans hs;clear hs hf;go_wp2
      go_round
      case rel=>exact⟨k+1,by omega,by go_num,HS⟩
      case measure=>simp[intOf];omega
    · rw[if_neg hz] at hs;have HS:Hid (Zap zs=z):=hf.out.trans hs;clear hs hf
      have hz':(z != 0)=true:=by simpa using hz
      clear hz;go_wp2;go_ret;exact⟨by rw[HS.out];rfl,rfl⟩
  · go_wp2;go_ret
    have:k=zs.length:=by omega
    subst this;exact⟨by rw[hf.out,List.drop_length];rfl,rfl⟩
theorem first_two(b cap:Nat)(x y:Int)(w:World)(h0:w.cell? (Ad b 0)=some (Vi x))(h1:w.cell? (Ad b 1)=some (Vi y)):
 Calls prog 13 #[.slice (some (Ad b 0)) 2 cap] w fun r w'=>r=.returned (Vi (Zap [x,y]))∧w'=w:=by
 refine first_any b 0 cap [x,y] w (by simp) ?_;intro k hk;simp only[List.length_cons,List.length_nil] at hk
 match k,hk with
 |0,_=>exact h0
 |1,_=>exact h1
theorem Zem(b cap:Nat)(x y z:Int)(w:World)(h0:w.cell? (Ad b 0)=some (Vi x))(h1:w.cell? (Ad b 1)=some (Vi y))(h2:w.cell? (Ad b 2)=some (Vi z)):
 Calls prog 13 #[.slice (some (Ad b 0)) 3 cap] w fun r w'=>r=.returned (Vi (Zap [x,y,z]))∧w'=w:=by
 refine first_any b 0 cap [x,y,z] w (by simp) ?_;intro k hk;simp only[List.length_cons,List.length_nil] at hk
 match k,hk with
 |0,_=>exact h0
 |1,_=>exact h1
 |2,_=>exact h2
theorem first_four(b cap:Nat)(x y z u:Int)(w:World)(h0:w.cell? (Ad b 0)=some (Vi x))(h1:w.cell? (Ad b 1)=some (Vi y))(h2:w.cell? (Ad b 2)=some (Vi z))(h3:w.cell? (Ad b 3)=some (Vi u)):
 Calls prog 13 #[.slice (some (Ad b 0)) 4 cap] w fun r w'=>r=.returned (Vi (Zap [x,y,z,u]))∧w'=w:=by
 refine first_any b 0 cap [x,y,z,u] w (by simp) ?_;intro k hk;simp only[List.length_cons,List.length_nil] at hk
 match k,hk with
 |0,_=>exact h0
 |1,_=>exact h1
 |2,_=>exact h2
 |3,_=>exact h3
theorem Zcm(T:TypeId)(x y:Int)(w:World):
 Calls prog 13 #[.slice (some (Ad w.heap.size 0)) 2 2] (w.alloc (.cells #[Vi x,Vi y] T)) fun r w'=>r=.returned (Vi (Zap [x,y]))∧w'=w.alloc (.cells #[Vi x,Vi y] T):=
 first_two _ _ x y _ (by simp[go_sem]) (by simp[go_sem])
theorem Zhn(T:TypeId)(x y z:Int)(w:World):
 Calls prog 13 #[.slice (some (Ad w.heap.size 0)) 3 3] (w.alloc (.cells #[Vi x,Vi y,Vi z] T)) fun r w'=>r=.returned (Vi (Zap [x,y,z]))∧w'=w.alloc (.cells #[Vi x,Vi y,Vi z] T):=
 Zem _ _ x y z _ (by simp[go_sem]) (by simp[go_sem]) (by simp[go_sem])
theorem first_new4(T:TypeId)(x y z u:Int)(w:World):
 Calls prog 13 #[.slice (some (Ad w.heap.size 0)) 4 4] (w.alloc (.cells #[Vi x,Vi y,Vi z,Vi u] T)) fun r w'=>r=.returned (Vi (Zap [x,y,z,u]))∧w'=w.alloc (.cells #[Vi x,Vi y,Vi z,Vi u] T):=
 first_four _ _ x y z u _ (by simp[go_sem]) (by simp[go_sem]) (by simp[go_sem]) (by simp[go_sem])
theorem Zab{p:Prop}(h:p):Hid p:=h
theorem Zaa(w:World)(o:Obj):Below w.heap.size w (w.alloc o):=(Below.refl _ _).alloc (Nat.le_refl _) o
theorem Zac{w w1 w2:World}(h:Below w.heap.size w w1)(k:Below w1.heap.size w1 w2):Below w.heap.size w w2:=h.trans (k.mono h.size)
def betw(x lo hi:Int):Bool:=decide (lo≤x)&&decide (x≤hi)
theorem Zas{x lo hi:Int}(h:betw x lo hi=true):lo≤x∧x≤hi:=by simp[betw] at h;omega
theorem Zbm{x lo hi:Int}(h0:lo≤x)(h1:x≤hi):betw x lo hi=true:=by simp[betw];omega
theorem Zaj(x lo hi:Int)(w:World):
 Calls prog 38 #[Vi x,Vi lo,Vi hi] w fun e w'=>e=.returned (.bool (betw x lo hi))∧w'=w:=Zdp x lo hi w
theorem fixIn_ex(x lo hi:Int)(w:World):
 Calls prog 128 #[Vi x,.agg #[Vi lo,Vi hi]] w fun e w'=>e=.returned (.bool (betw x lo hi))∧w'=w.alloc (.cells #[Vi lo,Vi hi] 105):=by
 unfold betw
 by_cases g1:lo≤x
 · by_cases g2:x≤hi
   · rw[decide_eq_true g1,decide_eq_true g2]
     go_enter func128,ntmps128
     go_wp2;go_ret;exact⟨rfl,rfl⟩
   · rw[decide_eq_true g1,decide_eq_false g2]
     go_enter func128,ntmps128
     go_wp2;go_ret;exact⟨by simp,rfl⟩
 · rw[decide_eq_false g1]
   go_enter func128,ntmps128
   go_wp2;go_ret;exact⟨rfl,rfl⟩
theorem Zbc(x lo hi:Int)(w:World):
 Calls prog 76 #[Vi x,Vi lo,Vi hi] w fun e w'=>e=.returned (.bool (betw x lo hi))∧w'=w.alloc (.cells #[Vi lo,Vi hi] 105):=by
 go_enter func76,ntmps76
 go_wp2_with (go_at_call 128;refine(fixIn_ex _ _ _ _).mono ?_;rintro e w' ⟨rfl,rfl⟩);go_ret;exact⟨rfl,rfl⟩
def arB(T R S C:Int):Bool:=betw T 1 1000&&betw R 1 T&&betw S 0 T&&betw C 1 10
def arE(T R S C:Int):Int:=if arB T R S C then 0 else 1
theorem Zat{T R S C:Int}(h:arB T R S C=true):(1≤T∧T≤1000)∧(1≤R∧R≤T)∧(0≤S∧S≤T)∧1≤C∧C≤10:=by
 simp only[arB,Bool.and_eq_true] at h;exact⟨Zas h.1.1.1,Zas h.1.1.2,Zas h.1.2,Zas h.2⟩
theorem Zes{T R S C:Int}(h:arE T R S C=0):arB T R S C=true:=by
 unfold arE at h;split at h
 · assumption
 · omega
theorem arE_ne{T R S C:Int}(h:arE T R S C≠0):arE T R S C=1:=by unfold arE at *;split<;>simp_all
theorem Zij(T R S C:Int)(w:World):
 Calls prog 180 #[.agg #[Vi T,Vi R,Vi S,Vi C]] w fun e w'=>e=.returned (errV (arE T R S C))∧Below w.heap.size w w':=by
 have f1:=Zbc T 1 1000;have f2:=Zbc R 1 T;have f3:=Zbc S 0 T;have f4:=Zbc C 1 10
 unfold arE arB
 generalize betw T 1 1000=x1 at *;generalize betw R 1 T=x2 at *;generalize betw S 0 T=x3 at *;generalize betw C 1 10=x4 at*
 rcases(show x1=false∨(x1=true∧x2=false)∨(x1=true∧x2=true∧x3=false)∨(x1=true∧x2=true∧x3=true∧x4=false)∨(x1=true∧x2=true∧x3=true∧x4=true) by cases x1<;>cases x2<;>cases x3<;>cases x4<;>simp) with rfl|⟨rfl,rfl⟩|⟨rfl,rfl,rfl⟩|⟨rfl,rfl,rfl,rfl⟩|⟨rfl,rfl,rfl,rfl⟩
 all_goals
  go_enter func180,ntmps180
  go_wp2_with (first|((first|go_at_call_of 76 (Vi R)|go_at_call_of 76 (Value.int .i64 R));refine(f2 _).mono ?_;rintro e w' ⟨rfl,rfl⟩)|((first|go_at_call_of 76 (Vi S)|go_at_call_of 76 (Value.int .i64 S));refine(f3 _).mono ?_;rintro e w' ⟨rfl,rfl⟩)|((first|go_at_call_of 76 (Vi C)|go_at_call_of 76 (Value.int .i64 C));refine(f4 _).mono ?_;rintro e w' ⟨rfl,rfl⟩)|((first|go_at_call_of 76 (Vi T)|go_at_call_of 76 (Value.int .i64 T));refine(f1 _).mono ?_;rintro e w' ⟨rfl,rfl⟩));go_ret;exact⟨rfl,by repeat (first|exact Zaa _ _|refine Zac ?_ (Zaa _ _))⟩
theorem Zhu(T R S C:Int)(w:World):
 Calls prog 89 #[.agg #[Vi T,Vi R,Vi S,Vi C]] w fun e w'=>e=.returned (Vi (arE T R S C))∧Below w.heap.size w w':=by
 have f1:=Zaj T 1 1000;have f2:=Zaj R 1 T;have f3:=Zaj S 0 T;have f4:=Zaj C 1 10
 unfold arE arB
 generalize betw T 1 1000=x1 at *;generalize betw R 1 T=x2 at *;generalize betw S 0 T=x3 at *;generalize betw C 1 10=x4 at*
 rcases(show x1=false∨(x1=true∧x2=false)∨(x1=true∧x2=true∧x3=false)∨(x1=true∧x2=true∧x3=true∧x4=false)∨(x1=true∧x2=true∧x3=true∧x4=true) by cases x1<;>cases x2<;>cases x3<;>cases x4<;>simp) with rfl|⟨rfl,rfl⟩|⟨rfl,rfl,rfl⟩|⟨rfl,rfl,rfl,rfl⟩|⟨rfl,rfl,rfl,rfl⟩
 all_goals
  go_enter func89,ntmps89
  go_wp2_with (first|((first|go_at_call_of 38 (Vi R)|go_at_call_of 38 (Value.int .i64 R));refine(f2 _).mono ?_;rintro e w' ⟨rfl,rfl⟩)|((first|go_at_call_of 38 (Vi S)|go_at_call_of 38 (Value.int .i64 S));refine(f3 _).mono ?_;rintro e w' ⟨rfl,rfl⟩)|((first|go_at_call_of 38 (Vi C)|go_at_call_of 38 (Value.int .i64 C));refine(f4 _).mono ?_;rintro e w' ⟨rfl,rfl⟩)|((first|go_at_call_of 38 (Vi T)|go_at_call_of 38 (Value.int .i64 T));refine(f1 _).mono ?_;rintro e w' ⟨rfl,rfl⟩)|(go_at_call 14;refine(Zcr _ _ _).mono ?_;rintro e w' ⟨rfl,rfl⟩));go_ret;exact⟨rfl,Zaa _ _⟩
end Go.Proofs.YtnfdfiholcelaaaGreatDoor
