
import Derived.Test.YtnfdfiholcelaaaGreatDoorJh00
import Derived.Test.YtnfdfiholcelaaaGreatDoorJh04
import Derived.Test.YtnfdfiholcelaaaGreatDoorJh10
import Derived.Test.YtnfdfiholcelaaaGreatDoorJh21
import Derived.Test.YtnfdfiholcelaaaGreatDoorJh22
import Derived.Test.YtnfdfiholcelaaaGreatDoorJh25
set_option maxRecDepth 100000
set_option maxHeartbeats 20000000
namespace Go.Proofs.YtnfdfiholcelaaaGreatDoor
open Go.RowKit Plain Tryz
def pnd(S:Int)(s:Sv)(a:Int):Int:=if s.1-S≤a∧a≤s.1+S then 0 else 1
structure EB (C:CR) (i u:Nat) (L:List Sv) (b E:Int):Prop where
 e0:0≤E
 ein:u<L.length→(svAt L u).2.2=false→E≤2*C.a i 5*b
 eout:u<L.length→(svAt L u).2.2=true→E≤2*C.a i 5*C.a i 10+bk (raI C i) (moI C i+puI C i)
 enone:L.length≤u→E=0
structure AI (C:CR) (i u:Nat) (L:List Sv) (at':Nat→Int) (x E:Int):Prop where
 ok:AllOk (C.a i 5) (C.a i 6) (C.a i 7) (C.a i 10) L
 len:(L.length:Int)=C.a i 4
 ap:Apart L 1
 rest:∀k,k<L.length→k≠u→((svAt L k).2.2=false∧(svAt L k).2.1=0)∧at' k=(svAt L k).1
 lo:u<L.length→(svAt L u).2.2=true→at' u=0
 eb:EB C i u L ((svAt L u).2.1+pnd (C.a i 7) (svAt L u) (at' u)) E
 kept:Kept (C.a i 0-E) (C.a i 1+E) (puI C i) (moI C i) (raI C i) x (smU L L.length)
structure AW (C:CR) (i u:Nat) (L:List Sv) (x E:Int):Prop where
 ok:AllOk (C.a i 5) (C.a i 6) (C.a i 7) (C.a i 10) L
 len:(L.length:Int)=C.a i 4
 ap:Apart L 1
 rest:∀k,k<L.length→k≠u→(svAt L k).2.2=false∧(svAt L k).2.1=0
 eb:EB C i u L (svAt L u).2.1 E
 kept:Kept (C.a i 0-E) (C.a i 1+E) (puI C i) (moI C i) (raI C i) x (smU L L.length)
theorem atB_pnd{S a:Int}{s:Sv}(ho:s.2.2=false):Zhq S s.1 a s.2.2 true=decide (pnd S s a=0):=by
 unfold Zhq atB pnd
 rw[ho]
 by_cases h:s.1-S≤a∧a≤s.1+S
 · rw[if_pos h];simp[betw,h]
 · rw[if_neg h];have:¬(s.1-S≤a∧a≤s.1+S):=h
   simp[betw]
   omega
theorem pnd_bd(S:Int)(s:Sv)(a:Int):pnd S s a=0∨pnd S s a=1:=by unfold pnd;split<;>simp
theorem pnd_self{S:Int}(h:0≤S)(s:Sv):pnd S s s.1=0:=by unfold pnd;rw[if_pos (by omega)]
section
variable {C : CR} {i u : Nat} {L : List Sv} {at' : Nat → Int} {x E : Int} {ws : List Rd}
theorem wv_fine{k:Nat}{s:Sv}(h:Zhq (C.a i 7) s.1 (smp ws (16+4*(i:Int)+(k:Int)) 3).2 s.2.2 (smp ws (16+4*(i:Int)+(k:Int)) 3).1=true):wv C ws i k s=s:=by
 unfold wv
 obtain⟨a,b,c⟩:=w_fine (C:=C.a i 10) (b:=s.2.1) h;rw[a,b,c]
theorem AI.watch(h:AI C i u L at' x E)(g:crE C=0)(hi:i<2)(hs:∀k,k<L.length→smp ws (16+4*(i:Int)+(k:Int)) 3=(true,at' k))(hok:AllOk (C.a i 5) (C.a i 6) (C.a i 7) (C.a i 10) (wml C ws i L L.length)):∃E',AW C i u (wml C ws i L L.length) x E':=by
 have ar:=Zat h.ok.1;have gok:GOK (C.a i 0) (C.a i 1) (C.a i 2) (puI C i) (moI C i) (raI C i):=grE_ok (Zde g hi (k:=3) (by omega))
 have hlen:(wml C ws i L L.length).length=L.length:=by simp[wml]
 have hrest:∀k,k<L.length→k≠u→svAt (wml C ws i L L.length) k=svAt L k:=fun k hk hu=>by
  obtain⟨⟨h1,h2⟩,h3⟩:=h.rest k hk hu;rw[wml_get C ws i L hk];refine wv_fine ?_;rw[hs k hk,h3];have:=atB_pnd (S:=C.a i 7) (a:=(svAt L k).1) h1;rw[this,pnd_self (by omega)]
  rfl
 have hr2:∀k,k<(wml C ws i L L.length).length→k≠u→(svAt (wml C ws i L L.length) k).2.2=false∧(svAt (wml C ws i L L.length) k).2.1=0:=fun k hk hu=>by
  rw[hrest k (by omega) hu];exact(h.rest k (by omega) hu).1
 by_cases hu:u<L.length
 · -- it may be loose
   by_cases hf:Zhq (C.a i 7) (svAt L u).1 (at' u) (svAt L u).2.2 true=true
   · -- nothing is found
     have hall:∀k,k<L.length→svAt (wml C ws i L L.length) k=svAt L k:=fun k hk=>by
      by_cases e:k=u
      · subst e;rw[wml_get C ws i L hk];exact wv_fine (by rw[hs k hk];exact hf)
      · exact hrest k hk e
     have hsum:smU (wml C ws i L L.length) (wml C ws i L L.length).length=smU L L.length:=by
      rw[Zgp,Zgp,hlen]
      exact sgU_eq _ fun k hk=>by rw[hall k hk]
     refine⟨E,hok,by rw[hlen];exact h.len,fun j k hj hk hoj hok=>?_,hr2,⟨h.eb.e0,fun _ ho=>?_,fun _ ho=>?_,fun e=>by omega⟩,by rw[hsum];exact h.kept⟩
     · rw[hlen] at hj hk;rw[hall j hj] at hoj⊢;rw[hall k hk] at hok⊢;exact h.ap j k hj hk hoj hok
     · rw[hall u hu] at ho⊢;have e:=h.eb.ein hu ho;rw[atB_pnd ho] at hf;rw[of_decide_eq_true hf,Int.add_zero] at e;exact e
     · rw[hall u hu] at ho;exact h.eb.eout hu ho
   · have hf:Zhq (C.a i 7) (svAt L u).1 (at' u) (svAt L u).2.2 true=false:=by simpa using hf
     have ho:(svAt L u).2.2=false:=by
      cases e:(svAt L u).2.2
      · rfl
      · rw[e] at hf;simp[Zhq] at hf
     have hp:pnd (C.a i 7) (svAt L u) (at' u)=1:=by
      rw[atB_pnd ho] at hf
      rcases pnd_bd (C.a i 7) (svAt L u) (at' u) with e|e
      · rw[e] at hf;cases hf
      · exact e
     have he:=h.eb.ein hu ho;rw[hp] at he
     by_cases hc:(svAt L u).2.1+1=C.a i 10
     · -- it is out
       have hw:svAt (wml C ws i L L.length) u=(0,(svAt L u).2.1+1,true):=by
        rw[wml_get C ws i L hu]
        unfold wv
        rw[hs u hu];obtain⟨a,b,c⟩:=w_last (C:=C.a i 10) hf hc
        dsimp only
        rw[a,b,c]
       have hin:=inN_lt (wml C ws i L L.length).length (by omega) (show(svAt (wml C ws i L L.length) u).2.2=true by rw[hw]);have hmul:=Int.mul_le_mul_of_nonneg_right (show(inN (wml C ws i L L.length) (wml C ws i L L.length).length:Int)≤C.a i 4-1 by have:=h.len;omega) (show 0≤C.a i 5 by omega);rw[←inT_is] at hmul;have te:=tot_ends hok
       have hq:-moI C i≤smU (wml C ws i L L.length) (wml C ws i L L.length).length∧smU (wml C ws i L L.length) (wml C ws i L L.length).length≤moI C i:=by unfold moI;omega
       have kt:=kept_turn h.kept gok.r0 hq.1 hq.2;have bn:=Zbs (raI C i) (moI C i+puI C i);refine⟨E+bk (raI C i) (moI C i+puI C i),hok,by rw[hlen];exact h.len,fun j k hj hk hoj hok=>?_,hr2,⟨by have:=h.eb.e0;omega,fun _ e=>?_,fun _ _=>?_,fun e=>by omega⟩,?_⟩
       · rw[hlen] at hj hk
         have hju:j≠u:=fun e=>by subst e;rw[hw] at hoj;cases hoj
         have hku:k≠u:=fun e=>by subst e;rw[hw] at hok;cases hok
         rw[hrest j hj hju] at hoj⊢;rw[hrest k hk hku] at hok⊢;exact h.ap j k hj hk hoj hok
       · rw[hw] at e;cases e
       · rw[hc] at he;omega
       · rw[show C.a i 0-(E+bk (raI C i) (moI C i+puI C i))=C.a i 0-E-bk (raI C i) (moI C i+puI C i) by omega,show C.a i 1+(E+bk (raI C i) (moI C i+puI C i))=C.a i 1+E+bk (raI C i) (moI C i+puI C i) by omega];exact kt
     · -- it is counted
       have hw:svAt (wml C ws i L L.length) u=((svAt L u).1,(svAt L u).2.1+1,false):=by
        rw[wml_get C ws i L hu]
        unfold wv
        rw[hs u hu];obtain⟨a,b,c⟩:=w_more (C:=C.a i 10) hf hc
        dsimp only
        rw[a,b,c]
       have h1:∀k,k<L.length→(svAt (wml C ws i L L.length) k).1=(svAt L k).1∧(svAt (wml C ws i L L.length) k).2.2=(svAt L k).2.2:=fun k hk=>by
        by_cases e:k=u
        · subst e;rw[hw,ho];exact⟨rfl,rfl⟩
        · rw[hrest k hk e];exact⟨rfl,rfl⟩
       have hsum:smU (wml C ws i L L.length) (wml C ws i L L.length).length=smU L L.length:=by
        rw[Zgp,Zgp,hlen];exact sgU_eq _ fun k hk=>(h1 k hk).1
       refine⟨E,hok,by rw[hlen];exact h.len,fun j k hj hk hoj hok=>?_,hr2,⟨h.eb.e0,fun _ _=>?_,fun _ e=>?_,fun e=>by omega⟩,by rw[hsum];exact h.kept⟩
       · rw[hlen] at hj hk;rw[(h1 j hj).2] at hoj;rw[(h1 k hk).2] at hok;rw[(h1 j hj).1,(h1 k hk).1];exact h.ap j k hj hk hoj hok
       · rw[hw];exact he
       · rw[hw] at e;cases e
 · -- nothing is loose
   have hall:∀k,k<L.length→svAt (wml C ws i L L.length) k=svAt L k:=fun k hk=>hrest k hk (by omega)
   have hsum:smU (wml C ws i L L.length) (wml C ws i L L.length).length=smU L L.length:=by
    rw[Zgp,Zgp,hlen]
    exact sgU_eq _ fun k hk=>by rw[hall k hk]
   refine⟨E,hok,by rw[hlen];exact h.len,fun j k hj hk hoj hok=>?_,hr2,⟨h.eb.e0,fun e=>by omega,fun e=>by omega,fun _=>h.eb.enone (by omega)⟩,by rw[hsum];exact h.kept⟩;rw[hlen] at hj hk;rw[hall j hj] at hoj⊢;rw[hall k hk] at hok⊢;exact h.ap j k hj hk hoj hok
end
theorem hiI_hi{R p lo hi room:Int}(h:lo≤hi):IsHi R p lo hi room (hiI R p lo hi room):=hiF_is _ (by omega) (fun s h3 h4=>by omega)
theorem clip_id{x lo hi:Int}(h0:lo≤x)(h1:x≤hi):Zal x lo hi=x:=by
 unfold Zal
 rw[if_neg (by omega),if_neg (by omega),if_neg (by omega)]
theorem plU_dev{C:CR}{l:List Ft}{now:Int}{i u:Nat}{L:List Sv}:∀n,(∀k,k<n→k≠u→plc C l now i k (svAt L k)=(svAt L k).1)→
 plU C l now i L n=smU L n+if u<n then plc C l now i u (svAt L u)-(svAt L u).1 else 0
 |0,_=>by simp[plU,smU]
 |n+1,h=>by
  rw[plU,smU,plU_dev n fun k hk hu=>h k (by omega) hu]
  by_cases e:u=n
  · subst e;rw[if_neg (by omega),if_pos (by omega)]
    omega
  · rw[h n (by omega) (fun e'=>e e'.symm)]
    by_cases h2:u<n
    · rw[if_pos h2,if_pos (by omega)];omega
    · rw[if_neg h2,if_neg (by omega)];omega
section
variable {C : CR} {i u : Nat} {L : List Sv} {x E y v n k p now : Int} {h : Int × Int × Int} {l : List Ft}
theorem go_in(hc:crE C=0)(hi:i<2)(w:AW C i u L x E)(hy:x-C.a i 2≤y)(hy':y≤x+C.a i 2)(y0:-1000000≤y)(y1:y≤1000000)(hn:betw n 0 1=true):
 ∀d,-puI C i≤d→d≤puI C i→Kept (C.a i 0-E) (C.a i 1+E) (puI C i) (moI C i) (raI C i) (x+goM C i h k y v n L+d) (goM C i h k y v n L)∧-raI C i≤goM C i h k y v n L-smU L L.length∧goM C i h k y v n L-smU L L.length≤raI C i:=by
 intro d hd hd';have gok:GOK (C.a i 0) (C.a i 1) (C.a i 2) (puI C i) (moI C i) (raI C i):=grE_ok (Zde hc hi (k:=3) (by omega));have c:=can_le gok.r0 gok.m0 w.kept.q0 w.kept.q1;have hp:pvI C i L=smU L L.length:=clip_id w.kept.q0 w.kept.q1;have A:=hiI_hi (R:=raI C i) (p:=puI C i) (lo:=-Zcp (moI C i) (raI C i) (smU L L.length)) (hi:=-Zco (moI C i) (raI C i) (smU L L.length)) (room:=y-C.a i 2-C.a i 0) (by omega);have B:=hiI_hi (R:=raI C i) (p:=puI C i) (lo:=Zco (moI C i) (raI C i) (smU L L.length)) (hi:=Zcp (moI C i) (raI C i) (smU L L.length)) (room:=C.a i 1-C.a i 2-y) (by omega);have x1:=no_cross gok c.2.1 c.2.2.1 A B
 have e1:bdL C i y n (smU L L.length)=-hiI (raI C i) (puI C i) (-Zcp (moI C i) (raI C i) (smU L L.length)) (-Zco (moI C i) (raI C i) (smU L L.length)) (y-C.a i 2-C.a i 0):=by
  unfold bdL;rw[if_pos hn,clip_id (by omega) (by omega)]
 have e2:bdH C i y n (smU L L.length)=hiI (raI C i) (puI C i) (Zco (moI C i) (raI C i) (smU L L.length)) (Zcp (moI C i) (raI C i) (smU L L.length)) (C.a i 1-C.a i 2-y):=by
  unfold bdH;rw[if_pos hn,clip_id (by omega) (by omega)]
 have s:=Zcd (v:=wtM C i h k y v n L) x1
 unfold goM
 rw[hp,e1,e2];exact kept_move gok w.eb.e0 w.kept hy hy' hd hd' A B s.1 s.2
theorem AW.move(hc:crE C=0)(hi:i<2)(w:AW C i u L x E)(hy:x-C.a i 2≤y)(hy':y≤x+C.a i 2)(y0:-1000000≤y)(y1:y≤1000000)(hn:betw n 0 1=true)
 (hl:∀k:Nat,k<L.length→k≠u→ail l now i k true=none) (hp:-C.a i 3≤p) (hp':p≤C.a i 3) {m:Nat} (hm:m=L.length) (a0:Nat→Int):
 ∃E',AI C i u (svM C i h k y v n L) (fun j=>if j<m then plc C l now i j (svAt (svM C i h k y v n L) j) else a0 j) (x+plU C l now i (svM C i h k y v n L) m+p) E':=by
 subst hm;have ar:=Zat w.ok.1;have ra:=Zdz (show rgE (C.a i 4) (C.a i 3)=0 from Zde hc hi (k:=0) (by omega));have K:=go_in (h:=h) (k:=k) (v:=v) hc hi w hy hy' y0 y1 hn;have pu:puI C i=C.a i 3+C.a i 7:=rfl;obtain⟨k0,r0,r1⟩:=K 0 (by omega) (by omega);have hgo:=reach_all w.ok w.ap w.len (fun k hk hu=>(w.rest k hk hu).1) (c:=goM C i h k y v n L) k0.q0 k0.q1 (by unfold raI at r0;omega) (by unfold raI at r1;omega);have f:=fr_of w.ok (goM C i h k y v n L);rw[show sik L (plI (C.a i 5) (C.a i 6) L (goM C i h k y v n L)) L.length=svM C i h k y v n L from rfl] at f
 have hsum:smU (svM C i h k y v n L) (svM C i h k y v n L).length=goM C i h k y v n L:=by
  rw[f.sum'];unfold clS;omega
 have hat:∀j,j<L.length→(svAt (svM C i h k y v n L) j).2=(svAt L j).2:=fun j hj=>by
  unfold svM;rw[sik_end _ _ hj]
 generalize svM C i h k y v n L=L3 at *;generalize goM C i h k y v n L=go at *;have hlen:=f.len;have hok:=f.ok'
 have hrest:∀j,j<L.length→j≠u→plc C l now i j (svAt L3 j)=(svAt L3 j).1:=fun j hj hu=>by
  unfold plc
  rw[hat j hj,(w.rest j hj hu).1,hl j hj hu]
  rfl
 have hdev:=plU_dev L.length hrest
 have hr3:∀j,j<L3.length→j≠u→((svAt L3 j).2.2=false∧(svAt L3 j).2.1=0)∧(if j<L.length then plc C l now i j (svAt L3 j) else a0 j)=(svAt L3 j).1:=fun j hj hu=>by
  rw[hat j (by omega),if_pos (by omega)];exact⟨w.rest j (by omega) hu,hrest j (by omega) hu⟩
 rw[hlen] at hsum;rw[hdev,hsum]
 by_cases hu:u<L.length
 · rw[if_pos hu];have su:=Zbd (hok.2 u (by omega))
   cases ho:(svAt L u).2.2
   · have ho3:(svAt L3 u).2.2=false:=by rw[hat u hu];exact ho
     have hb3:(svAt L3 u).2.1=(svAt L u).2.1:=by rw[hat u hu]
     have hpl:-C.a i 5≤plc C l now i u (svAt L3 u)∧plc C l now i u (svAt L3 u)≤C.a i 5:=by
      unfold plc
      rw[ho3];simp only[Bool.false_eq_true,if_false]
      split
      · exact Zcd (by omega)
      · exact su.1
     have he:=w.eb.ein hu ho;generalize hd:plc C l now i u (svAt L3 u)=at2 at*
     by_cases hs:(svAt L3 u).1-C.a i 7≤at2∧at2≤(svAt L3 u).1+C.a i 7
     · have hpn:pnd (C.a i 7) (svAt L3 u) at2=0:=if_pos hs;refine⟨E,hok,by rw[hlen];exact w.len,Zjf f w.ap,hr3,fun _ e=>(by rw[ho3] at e;cases e),⟨w.eb.e0,fun _ _=>?_,fun _ e=>(by rw[ho3] at e;cases e),fun e=>by omega⟩,?_⟩
       · rw[if_pos hu,hd,hpn,hb3,Int.add_zero];exact he
       · rw[hlen,hsum,show x+(go+(at2-(svAt L3 u).1))+p=x+go+(at2-(svAt L3 u).1+p) by omega];exact(K _ (by omega) (by omega)).1
     · have hpn:pnd (C.a i 7) (svAt L3 u) at2=1:=if_neg hs;refine⟨E+2*C.a i 5,hok,by rw[hlen];exact w.len,Zjf f w.ap,hr3,fun _ e=>(by rw[ho3] at e;cases e),⟨by have:=w.eb.e0;omega,fun _ _=>?_,fun _ e=>(by rw[ho3] at e;cases e),fun e=>by omega⟩,?_⟩
       · rw[if_pos hu,hd,hpn,hb3,Int.mul_add,Int.mul_one];omega
       · have:=kept_wide (d:=at2-(svAt L3 u).1) (e:=2*C.a i 5) (K p (by omega) (by omega)).1 (by omega) (by omega);rw[hlen,hsum,show x+(go+(at2-(svAt L3 u).1))+p=x+go+p+(at2-(svAt L3 u).1) by omega,show C.a i 0-(E+2*C.a i 5)=C.a i 0-E-2*C.a i 5 by omega,show C.a i 1+(E+2*C.a i 5)=C.a i 1+E+2*C.a i 5 by omega];exact this
   · have ho3:(svAt L3 u).2.2=true:=by rw[hat u hu];exact ho
     have hz:plc C l now i u (svAt L3 u)=0:=by unfold plc;rw[ho3];rfl
     have hz3:=su.2.2.1 ho3;refine⟨E,hok,by rw[hlen];exact w.len,Zjf f w.ap,hr3,fun _ _=>by rw[if_pos hu];exact hz,⟨w.eb.e0,fun _ e=>(by rw[ho3] at e;cases e),fun _ _=>w.eb.eout hu ho,fun e=>by omega⟩,?_⟩;rw[hlen,hsum,hz,hz3,show x+(go+(0-0))+p=x+go+p by omega];exact(K p (by omega) (by omega)).1
 · rw[if_neg hu];refine⟨E,hok,by rw[hlen];exact w.len,Zjf f w.ap,hr3,fun e=>by omega,⟨w.eb.e0,fun e=>by omega,fun e=>by omega,fun _=>w.eb.enone (by omega)⟩,?_⟩;rw[hlen,hsum,show x+(go+0)+p=x+go+p by omega];exact(K p (by omega) (by omega)).1
theorem AI.most{at':Nat→Int}(h:AI C i u L at' x E):C.a i 0-(2*C.a i 5*C.a i 10+bk (raI C i) (moI C i+puI C i))≤x∧x≤C.a i 1+(2*C.a i 5*C.a i 10+bk (raI C i) (moI C i+puI C i)):=by
 have k:=h.kept;have k0:=k.lo;have k1:=k.hi;have ar:=Zat h.ok.1;have bn:=Zbs (raI C i) (moI C i+puI C i);have hp:=Int.mul_nonneg (show 0≤2*C.a i 5 by omega) (show 0≤C.a i 10 by omega)
 by_cases hu:u<L.length
 · cases ho:(svAt L u).2.2
   · have he:=h.eb.ein hu ho;have su:=(Zbd (h.ok.2 u hu)).2.2.2 ho;have hq:=pnd_bd (C.a i 7) (svAt L u) (at' u);have:=Int.mul_le_mul_of_nonneg_left (show(svAt L u).2.1+pnd (C.a i 7) (svAt L u) (at' u)≤C.a i 10 by omega) (show 0≤2*C.a i 5 by omega)
     omega
   · have he:=h.eb.eout hu ho
     omega
 · have:=h.eb.enone (by omega)
   omega
theorem AI.bd{at':Nat→Int}(h:AI C i u L at' x E)(hc:crE C=0)(hi:i<2):-221000≤x∧x≤221000:=by
 have gok:GOK (C.a i 0) (C.a i 1) (C.a i 2) (puI C i) (moI C i) (raI C i):=grE_ok (Zde hc hi (k:=3) (by omega));have m:=h.most;have ar:=Zat h.ok.1;have h0:=gok.l0;have h1:=gok.h1;have h2:=gok.h0;have h3:=gok.l1;have h4:=gok.room;have h5:=gok.n0;have p:=Int.mul_le_mul_of_nonneg_left (show C.a i 10≤10 by omega) (show 0≤2*C.a i 5 by omega)
 omega
end
structure SA (C:CR) (s:Stp):Prop where
 k:∀i,i<2→-100≤s.k i∧s.k i≤100
 p:∀i,i<2→-C.a i 3≤s.p i∧s.p i≤C.a i 3
 z:∀i,i<2→0≤s.z i∧s.z i≤8589934591
 v:0≤s.v∧s.v≤262143
structure GI (C:CR) (n:Int) (q:FT):Prop where
 st:stE C q.S q.sv=0
 at4:∀i,i<2→∀k,k<4→-1000≤q.at' i k∧q.at' i k≤1000
 x:∀i,i<2→-(5000*n)≤q.x i∧q.x i≤5000*n
theorem replicate_svAt{m k:Nat}:svAt (List.replicate m svD) k=svD:=by
 unfold svAt
 rw[List.getD_eq_getElem?_getD,List.getElem?_replicate]
 split<;>rfl
theorem cr_ar{C:CR}(h:crE C=0){i:Nat}(hi:i<2):arB (C.a i 5) (C.a i 6) (C.a i 7) (C.a i 10)=true:=arE_arB (show arE (C.a i 5) (C.a i 6) (C.a i 7) (C.a i 10)=0 from Zde h hi (k:=2) (by omega))
theorem cr_rg{C:CR}(h:crE C=0){i:Nat}(hi:i<2):(2≤C.a i 4∧C.a i 4≤4)∧0≤C.a i 3∧C.a i 3≤1000:=Zdz (show rgE (C.a i 4) (C.a i 3)=0 from Zde h hi (k:=0) (by omega))
theorem cr_gok{C:CR}(h:crE C=0){i:Nat}(hi:i<2):GOK (C.a i 0) (C.a i 1) (C.a i 2) (puI C i) (moI C i) (raI C i):=grE_ok (Zde h hi (k:=3) (by omega))
theorem cr_fm{C:CR}(h:crE C=0){i:Nat}(hi:i<2):2*C.a i 2≤C.a i 8∧C.a i 0≤0∧0≤C.a i 1:=by
 have:=(show fmE (C.a i 8) (C.a i 2) (C.a i 0) (C.a i 1)=0 from Zde h hi (k:=5) (by omega))
 unfold fmE at this
 split at this
 · cases this
 · omega
theorem GI.new{C:CR}(h:crE C=0):GI C 0 (q0 C):=by
 have hcs:∀i,i<2→csE C i (List.replicate (C.a i 4).toNat svD)=0:=fun i hi=>by
  have r:=cr_rg h hi;have a:=cr_ar h hi;have ar:=Zat a
  unfold csE
  rw[List.length_replicate,if_pos (by omega)];refine seU_mk _ fun k hk=>svE_mk a ?_;rw[replicate_svAt];exact sv_mk (show -C.a i 5≤(0:Int)∧(0:Int)≤C.a i 5 by omega) (show(0:Int)≤0∧(0:Int)≤C.a i 10 by omega) (fun h=>by cases h) (fun _=>show(0:Int)<C.a i 10 by omega)
 have hch:∀i,i<2→chE C i (0,0,0)=0:=fun i hi=>by
  have hr:ruE (C.a i 0) (C.a i 1) (C.a i 11) (C.a i 14) (moI C i) (C.al i) (C.zl i)=0:=Zde h hi (k:=4) (by omega);have hm:=mo_pos h hi;have hf:=cr_fm h hi
  unfold chE hoE
  rw[if_pos hr,if_pos,if_pos]
  · simp only[asB,betw,Bool.and_eq_true,decide_eq_true_eq];omega
  · simp only[stB,betw,Bool.and_eq_true,decide_eq_true_eq];omega
 refine⟨stE_mk h fun k hk=>?_,fun _ _ _ _=>by show -1000≤(0:Int)∧(0:Int)≤1000;omega,fun _ _=>by show -(5000*0)≤(0:Int)∧(0:Int)≤5000*0;omega⟩
 rcases(show k=0∨k=1∨k=2∨k=3∨k=4∨k=5∨k=6∨k=7 by omega) with rfl|rfl|rfl|rfl|rfl|rfl|rfl|rfl
 · rfl
 · rfl
 · rfl
 · rfl
 · exact hcs 0 (by omega)
 · exact hch 0 (by omega)
 · exact hcs 1 (by omega)
 · exact hch 1 (by omega)
theorem plc_bd{C:CR}{l:List Ft}{now:Int}{i k:Nat}{s:Sv}(h0:0≤C.a i 5)(h:-C.a i 5≤s.1∧s.1≤C.a i 5):-C.a i 5≤plc C l now i k s∧plc C l now i k s≤C.a i 5:=by
 unfold plc
 split
 · omega
 · split
   · exact Zcd (by omega)
   · exact h
theorem plU_bd{C:CR}{l:List Ft}{now:Int}{i:Nat}{L:List Sv}(h:∀k,k<L.length→-1000≤plc C l now i k (svAt L k)∧plc C l now i k (svAt L k)≤1000):∀n:Nat,n≤L.length→-(1000*(n:Int))≤plU C l now i L n∧plU C l now i L n≤1000*(n:Int)
 |0,_=>by simp[plU]
 |n+1,hn=>by
  have a:=plU_bd h n (by omega);have b:=h n (by omega);rw[plU];omega
section
variable {C : CR} {l : List Ft} {now n : Int} {q : FT} {s : Stp}
theorem GI.len(h:GI C n q){i:Nat}(hi:i<2):((q.sv i).length:Int)=C.a i 4:=(Zfl h.st hi).1
theorem GI.cr(h:GI C n q):crE C=0:=(Zbh h.st).1
theorem GI.may(h:GI C n q)(hs:SA C s):∀r∈saR C l now q.x q.at' s,Zfa r=true:=saR_may (fun _ hi=>(cr_rg h.cr hi).1.2) h.at4 hs.k
theorem GI.step(h:GI C n q)(hs:SA C s):GI C (n+1) (stpF C l now q s):=by
 have st:=stE_step (ws:=(saR C l now q.x q.at' s).map pk1) h.st
 have hb:∀i,i<2→∀k,k<(vS3 C q.S (wsF C l now q s) q.sv i).length→-C.a i 5≤plc C l now i k (svAt (vS3 C q.S (wsF C l now q s) q.sv i) k)∧plc C l now i k (svAt (vS3 C q.S (wsF C l now q s) q.sv i) k)≤C.a i 5:=fun i hi k hk=>by
  have sl:=Zfl st hi;have ar:=Zat (cr_ar h.cr hi);have:=Zbd (Zhf (seU_all _ sl.2 k hk)).2;exact plc_bd (by omega) this.1
 have ht:∀i,i<2→C.a i 5≤1000∧0≤C.a i 5:=fun i hi=>by have:=Zat (cr_ar h.cr hi);omega
 have hlen:∀i,i<2→((vS3 C q.S (wsF C l now q s) q.sv i).length:Int)=C.a i 4:=fun i hi=>(Zfl st hi).1;refine⟨st,fun i hi k hk=>?_,fun i hi=>?_⟩
 · show -1000≤(if k<(C.a i 4).toNat then _ else _)∧(if k<(C.a i 4).toNat then _ else _)≤1000
   have hl:=hlen i hi
   split
   · have:=hb i hi k (by omega);have:=ht i hi;omega
   · exact h.at4 i hi k hk
 · show -(5000*(n+1))≤q.x i+plU C l now i (vS3 C q.S (wsF C l now q s) q.sv i) (C.a i 4).toNat+s.p i∧q.x i+plU C l now i (vS3 C q.S (wsF C l now q s) q.sv i) (C.a i 4).toNat+s.p i≤5000*(n+1)
   have hl:=hlen i hi;have r:=cr_rg h.cr hi;have:=plU_bd (C:=C) (l:=l) (now:=now) (i:=i) (L:=vS3 C q.S (wsF C l now q s) q.sv i) (fun k hk=>by have:=hb i hi k hk;have:=ht i hi;omega) (C.a i 4).toNat (by omega);have:=h.x i hi;have:=hs.p i hi
   omega
end
section
variable {C : CR} {l : List Ft} {now n : Int} {q : FT} {s : Stp}
end
section
variable {C : CR} {l : List Ft} {now : Int} {q : FT} {s : Stp}
end
structure FtOK (C:CR) (f:Ft):Prop where
 a:0≤f.1∧f.1≤300
 k:0≤f.2.1∧f.2.1≤4
 x:0≤f.2.2.1∧f.2.2.1≤2
 u:0≤f.2.2.2.1
 ch:f.2.1≠4→f.2.2.2.1≤2
 su:f.2.1=4→f.2.2.1≤1∧f.2.2.2.1<C.a f.2.2.1.toNat 4
def Sts(u:World)(a:Option Addr)(l:List Stp):Prop:=l=[]∨∃b off,a=some (Ad b off)∧∀k,k<l.length→u.rangeAt b (off+k*8) (stpL (stAt l k))
theorem Sts.later{u u':World}{a:Option Addr}{l:List Stp}(h:Sts u a l)(hb:Below u.heap.size u u'):Sts u' a l:=by
 rcases h with h|⟨b,off,h,hc⟩
 · exact .inl h
 · exact .inr ⟨b,off,h,fun k hk j v hj=>cell_later hb (hc k hk j v hj)⟩
theorem Sts.at{u:World}{a:Option Addr}{l:List Stp}(h:Sts u a l){k:Nat}(hk:k<l.length):∃b off,a=some (Ad b off)∧u.rangeAt b (off+k*8) (stpL (stAt l k)):=by
 rcases h with h|⟨b,off,h,hc⟩
 · rw[h] at hk;simp at hk
 · exact⟨b,off,h,hc k hk⟩
theorem rnew_any(a0 a1 a2 a3 a4 a5 a6 a7 a8 a9 a10 a11 a14:Int)(p q:Option Addr)(n m cn cm:Nat)(b0 b1 b2 b3 b4 b5 b6 b7 b8 b9 b10 b11 b14:Int)(r s:Option Addr)(n' m' dn dm:Nat)(c0 c1:Int)(h4:2≤a4∧a4≤4)(g4:2≤b4∧b4≤4)(w:World):
 Calls prog 69 #[.agg #[Vi a0,Vi a1,Vi a2,Vi a3,Vi a4,Vi a5,Vi a6,Vi a7,Vi a8,Vi a9,Vi a10,Vi a11,.slice p n cn,.slice q m cm,Vi a14,Vi b0,Vi b1,Vi b2,Vi b3,Vi b4,Vi b5,Vi b6,Vi b7,Vi b8,Vi b9,Vi b10,Vi b11,.slice r n' dn,.slice s m' dm,Vi b14,Vi c0,Vi c1]] w fun e w'=>∃(G0 G1 k0 k1:Nat),((k0:Int)=a4∧(k1:Int)=b4)∧e=.returned (.agg #[Vi 0,Vi 0,Vi 0,.bool false,.bool false,.bool false,Vi 0,Vi 0,Vi 0,Vi 0,.bool false,.bool false,.bool false,Vi 0,Vi 0,Vi 0,Vi 0,.bool false,.bool false,.bool false,Vi 0,.slice (some (Ad G0 0)) k0 k0,.slice (some (Ad G1 0)) k1 k1,Vi 0,Vi 0,Vi 0,Vi 0,Vi 0,Vi 0,Vi 0])∧ZS w' (some (Ad G0 0)) k0∧ZS w' (some (Ad G1 0)) k1∧Below w.heap.size w w':=by
 obtain⟨k0,rfl⟩:∃k:Nat,a4=k:=⟨a4.toNat,by omega⟩;obtain⟨k1,rfl⟩:∃k:Nat,b4=k:=⟨b4.toNat,by omega⟩;have hm0:=Zft k0 (by omega);have hm1:=Zft k1 (by omega);have HC0:Hid (CrH ((w.alloc (.cells #[Vi a0,Vi a1,Vi a2,Vi a3,Vi (k0:Int),Vi a5,Vi a6,Vi a7,Vi a8,Vi a9,Vi a10,Vi a11,.slice p n cn,.slice q m cm,Vi a14,Vi b0,Vi b1,Vi b2,Vi b3,Vi (k1:Int),Vi b5,Vi b6,Vi b7,Vi b8,Vi b9,Vi b10,Vi b11,.slice r n' dn,.slice s m' dm,Vi b14,Vi c0,Vi c1] 29)).alloc (.cells #[Vi 0,Vi 0,Vi 0,.bool false,.bool false,.bool false,Vi 0,Vi 0,Vi 0,Vi 0,.bool false,.bool false,.bool false,Vi 0,Vi 0,Vi 0,Vi 0,.bool false,.bool false,.bool false,Vi 0,.slice none 0 0,.slice none 0 0,Vi 0,Vi 0,Vi 0,Vi 0,Vi 0,Vi 0,Vi 0] 41)) w.heap.size [Vi a0,Vi a1,Vi a2,Vi a3,Vi (k0:Int),Vi a5,Vi a6,Vi a7,Vi a8,Vi a9,Vi a10,Vi a11,.slice p n cn,.slice q m cm,Vi a14,Vi b0,Vi b1,Vi b2,Vi b3,Vi (k1:Int),Vi b5,Vi b6,Vi b7,Vi b8,Vi b9,Vi b10,Vi b11,.slice r n' dn,.slice s m' dm,Vi b14,Vi c0,Vi c1]):=Zab (CrH.later (World.alloc_heap_new w _) (Zaa _ _))
 have HS1:Hid (StH ((w.alloc (.cells #[Vi a0,Vi a1,Vi a2,Vi a3,Vi (k0:Int),Vi a5,Vi a6,Vi a7,Vi a8,Vi a9,Vi a10,Vi a11,.slice p n cn,.slice q m cm,Vi a14,Vi b0,Vi b1,Vi b2,Vi b3,Vi (k1:Int),Vi b5,Vi b6,Vi b7,Vi b8,Vi b9,Vi b10,Vi b11,.slice r n' dn,.slice s m' dm,Vi b14,Vi c0,Vi c1] 29)).alloc (.cells #[Vi 0,Vi 0,Vi 0,.bool false,.bool false,.bool false,Vi 0,Vi 0,Vi 0,Vi 0,.bool false,.bool false,.bool false,Vi 0,Vi 0,Vi 0,Vi 0,.bool false,.bool false,.bool false,Vi 0,.slice none 0 0,.slice none 0 0,Vi 0,Vi 0,Vi 0,Vi 0,Vi 0,Vi 0,Vi 0] 41)) (w.heap.size+1) [Vi 0,Vi 0,Vi 0,.bool false,.bool false,.bool false,Vi 0,Vi 0,Vi 0,Vi 0,.bool false,.bool false,.bool false,Vi 0,Vi 0,Vi 0,Vi 0,.bool false,.bool false,.bool false,Vi 0,.slice none 0 0,.slice none 0 0,Vi 0,Vi 0,Vi 0,Vi 0,Vi 0,Vi 0,Vi 0]):=Zab (by have:=World.alloc_heap_new (w.alloc (.cells #[Vi a0,Vi a1,Vi a2,Vi a3,Vi (k0:Int),Vi a5,Vi a6,Vi a7,Vi a8,Vi a9,Vi a10,Vi a11,.slice p n cn,.slice q m cm,Vi a14,Vi b0,Vi b1,Vi b2,Vi b3,Vi (k1:Int),Vi b5,Vi b6,Vi b7,Vi b8,Vi b9,Vi b10,Vi b11,.slice r n' dn,.slice s m' dm,Vi b14,Vi c0,Vi c1] 29)) (.cells #[Vi 0,Vi 0,Vi 0,.bool false,.bool false,.bool false,Vi 0,Vi 0,Vi 0,Vi 0,.bool false,.bool false,.bool false,Vi 0,Vi 0,Vi 0,Vi 0,.bool false,.bool false,.bool false,Vi 0,.slice none 0 0,.slice none 0 0,Vi 0,Vi 0,Vi 0,Vi 0,Vi 0,Vi 0,Vi 0] 41);rw[World.size_alloc] at this;exact this);have HB0:Hid (Below w.heap.size w ((w.alloc (.cells #[Vi a0,Vi a1,Vi a2,Vi a3,Vi (k0:Int),Vi a5,Vi a6,Vi a7,Vi a8,Vi a9,Vi a10,Vi a11,.slice p n cn,.slice q m cm,Vi a14,Vi b0,Vi b1,Vi b2,Vi b3,Vi (k1:Int),Vi b5,Vi b6,Vi b7,Vi b8,Vi b9,Vi b10,Vi b11,.slice r n' dn,.slice s m' dm,Vi b14,Vi c0,Vi c1] 29)).alloc (.cells #[Vi 0,Vi 0,Vi 0,.bool false,.bool false,.bool false,Vi 0,Vi 0,Vi 0,Vi 0,.bool false,.bool false,.bool false,Vi 0,Vi 0,Vi 0,Vi 0,.bool false,.bool false,.bool false,Vi 0,.slice none 0 0,.slice none 0 0,Vi 0,Vi 0,Vi 0,Vi 0,Vi 0,Vi 0,Vi 0] 41))):=Zab (Zac (Zaa _ _) (Zaa _ _));clear h4 g4
 go_enter func69,ntmps69
 go_upto_region 1 with fail;generalize (w.alloc (.cells #[Vi a0,Vi a1,Vi a2,Vi a3,Vi (k0:Int),Vi a5,Vi a6,Vi a7,Vi a8,Vi a9,Vi a10,Vi a11,.slice p n cn,.slice q m cm,Vi a14,Vi b0,Vi b1,Vi b2,Vi b3,Vi (k1:Int),Vi b5,Vi b6,Vi b7,Vi b8,Vi b9,Vi b10,Vi b11,.slice r n' dn,.slice s m' dm,Vi b14,Vi c0,Vi c1] 29)).alloc (.cells #[Vi 0,Vi 0,Vi 0,.bool false,.bool false,.bool false,Vi 0,Vi 0,Vi 0,Vi 0,.bool false,.bool false,.bool false,Vi 0,Vi 0,Vi 0,Vi 0,.bool false,.bool false,.bool false,Vi 0,.slice none 0 0,.slice none 0 0,Vi 0,Vi 0,Vi 0,Vi 0,Vi 0,Vi 0,Vi 0] 41)=w0 at *;have HN1:=Zab HS1.out.lt;have HC:=Zab (HC0.out.later (Zaa w0 (.cells #[Vi 0,Vi 0,Vi 0,.bool false,.bool false,.bool false,Vi 0,Vi 0,Vi 0,Vi 0,.bool false,.bool false,.bool false,Vi 0,Vi 0,Vi 0,Vi 0,.bool false,.bool false,.bool false,Vi 0,.slice none 0 0,.slice none 0 0,Vi 0,Vi 0,Vi 0,Vi 0,Vi 0,Vi 0,Vi 0] 41)));have HR:=Zab (HS1.out.later (Zaa w0 (.cells #[Vi 0,Vi 0,Vi 0,.bool false,.bool false,.bool false,Vi 0,Vi 0,Vi 0,Vi 0,.bool false,.bool false,.bool false,Vi 0,Vi 0,Vi 0,Vi 0,.bool false,.bool false,.bool false,Vi 0,.slice none 0 0,.slice none 0 0,Vi 0,Vi 0,Vi 0,Vi 0,Vi 0,Vi 0,Vi 0] 41)));have HS:Hid (StH (w0.alloc (.cells #[Vi 0,Vi 0,Vi 0,.bool false,.bool false,.bool false,Vi 0,Vi 0,Vi 0,Vi 0,.bool false,.bool false,.bool false,Vi 0,Vi 0,Vi 0,Vi 0,.bool false,.bool false,.bool false,Vi 0,.slice none 0 0,.slice none 0 0,Vi 0,Vi 0,Vi 0,Vi 0,Vi 0,Vi 0,Vi 0] 41)) w0.heap.size [Vi 0,Vi 0,Vi 0,.bool false,.bool false,.bool false,Vi 0,Vi 0,Vi 0,Vi 0,.bool false,.bool false,.bool false,Vi 0,Vi 0,Vi 0,Vi 0,.bool false,.bool false,.bool false,Vi 0,.slice none 0 0,.slice none 0 0,Vi 0,Vi 0,Vi 0,Vi 0,Vi 0,Vi 0,Vi 0]):=Zab (World.alloc_heap_new w0 _);have HB:=Zab (Zac HB0.out (Zaa w0 (.cells #[Vi 0,Vi 0,Vi 0,.bool false,.bool false,.bool false,Vi 0,Vi 0,Vi 0,Vi 0,.bool false,.bool false,.bool false,Vi 0,Vi 0,Vi 0,Vi 0,.bool false,.bool false,.bool false,Vi 0,.slice none 0 0,.slice none 0 0,Vi 0,Vi 0,Vi 0,Vi 0,Vi 0,Vi 0,Vi 0] 41)));clear HC0 HS1 HB0
 go_upto_region 2 with(first
  |(refine Sq 41 _ _ rfl ?_;refine Zfg (c':=#[Vi 0,Vi 0,Vi 0,.bool false,.bool false,.bool false,Vi 0,Vi 0,Vi 0,Vi 0,.bool false,.bool false,.bool false,Vi 0,Vi 0,Vi 0,Vi 0,.bool false,.bool false,.bool false,Vi 0,.slice none 0 0,.slice none 0 0,Vi 0,Vi 0,Vi 0,Vi 0,Vi 0,Vi 0,Vi 0]) (.tmp 3) (.tmp 5) rfl rfl rfl rfl rfl rfl (Zaq _ rfl) ?_))
 generalize w0.alloc (.cells #[Vi 0,Vi 0,Vi 0,.bool false,.bool false,.bool false,Vi 0,Vi 0,Vi 0,Vi 0,.bool false,.bool false,.bool false,Vi 0,Vi 0,Vi 0,Vi 0,.bool false,.bool false,.bool false,Vi 0,.slice none 0 0,.slice none 0 0,Vi 0,Vi 0,Vi 0,Vi 0,Vi 0,Vi 0,Vi 0] 41)=w1 at *;generalize w0.heap.size=O at*
 have kc4:w1.cell? (Ad w.heap.size 4)=some (Vi (k0:Int)):=by have:=HC.out.range 4 _ rfl;rwa[Nat.zero_add] at this
 have q21:=((HS.out.later (Zaa w1 (.cells (madeCells #[Vi 0,Vi 0,.bool false] (k0*3)) 116))).cell (j:=21) rfl).1;have r21:=((HS.out.later (Zaa w1 (.cells (madeCells #[Vi 0,Vi 0,.bool false] (k0*3)) 116))).cell (j:=21) rfl).2;have HN2:=Zab HS.out.lt;have HC1:=Zab ((HC.out.later (Zaa w1 (.cells (madeCells #[Vi 0,Vi 0,.bool false] (k0*3)) 116))).far (V:=O) (by have:=HN1.out;omega) 21 (.slice (some (Ad w1.heap.size 0)) k0 k0));have HR1:=Zab ((HR.out.later (Zaa w1 (.cells (madeCells #[Vi 0,Vi 0,.bool false] (k0*3)) 116))).far (V:=O) (by have:=HN1.out;omega) 21 (.slice (some (Ad w1.heap.size 0)) k0 k0));have HS1:=Zab ((HS.out.later (Zaa w1 (.cells (madeCells #[Vi 0,Vi 0,.bool false] (k0*3)) 116))).set 21 (.slice (some (Ad w1.heap.size 0)) k0 k0));have HB1:=Zab ((Zac HB.out (Zaa w1 (.cells (madeCells #[Vi 0,Vi 0,.bool false] (k0*3)) 116))).setCell (p:=⟨O,21,none⟩) (by have:=HN1.out;simp;omega) (.slice (some (Ad w1.heap.size 0)) k0 k0));have HZ0:=Zab ((zs_made k0 w1).far (V:=O) (j:=21) (v:=.slice (some (Ad w1.heap.size 0)) k0 k0) (by intro b off e;cases e;have:=HN2.out;omega));clear HC HR HS HB;go_wp2_with fail;refine wp_loop_rounds 3 ?_;rw[rounds_succ];go_wp2_with fail;generalize hw2:(w1.alloc (.cells (madeCells #[Vi 0,Vi 0,.bool false] (k0*3)) 116)).setCell (Ad O 21) (.slice (some (Ad w1.heap.size 0)) k0 k0)=w2 at *;clear hw2 kc4 q21 r21;have HN0:Hid (w1.heap.size≠O∧w1.heap.size≠w.heap.size+1):=Zab ⟨by have:=HN2.out;omega,by have:=HN2.out;have:=HN1.out;omega⟩;generalize w1.heap.size=G0 at *;have HS1:Hid (StH w2 O [Vi 0,Vi 0,Vi 0,.bool false,.bool false,.bool false,Vi 0,Vi 0,Vi 0,Vi 0,.bool false,.bool false,.bool false,Vi 0,Vi 0,Vi 0,Vi 0,.bool false,.bool false,.bool false,Vi 0,.slice (some (Ad G0 0)) k0 k0,.slice none 0 0,Vi 0,Vi 0,Vi 0,Vi 0,Vi 0,Vi 0,Vi 0]):=HS1
 have kc4:w2.cell? (Ad w.heap.size 19)=some (Vi (k1:Int)):=by have:=HC1.out.range 19 _ rfl;rwa[Nat.zero_add] at this
 have q22:=((HS1.out.later (Zaa w2 (.cells (madeCells #[Vi 0,Vi 0,.bool false] (k1*3)) 116))).cell (j:=22) rfl).1;have r22:=((HS1.out.later (Zaa w2 (.cells (madeCells #[Vi 0,Vi 0,.bool false] (k1*3)) 116))).cell (j:=22) rfl).2;have HN3:=Zab HS1.out.lt;have HN4:=Zab HR1.out.lt;have HR2:=Zab ((HR1.out.later (Zaa w2 (.cells (madeCells #[Vi 0,Vi 0,.bool false] (k1*3)) 116))).far (V:=O) (by have:=HN1.out;omega) 22 (.slice (some (Ad w2.heap.size 0)) k1 k1));have HS2:Hid (StH ((w2.alloc (.cells (madeCells #[Vi 0,Vi 0,.bool false] (k1*3)) 116)).setCell (Ad O 22) (.slice (some (Ad w2.heap.size 0)) k1 k1)) O [Vi 0,Vi 0,Vi 0,.bool false,.bool false,.bool false,Vi 0,Vi 0,Vi 0,Vi 0,.bool false,.bool false,.bool false,Vi 0,Vi 0,Vi 0,Vi 0,.bool false,.bool false,.bool false,Vi 0,.slice (some (Ad G0 0)) k0 k0,.slice (some (Ad w2.heap.size 0)) k1 k1,Vi 0,Vi 0,Vi 0,Vi 0,Vi 0,Vi 0,Vi 0]):=Zab ((HS1.out.later (Zaa w2 (.cells (madeCells #[Vi 0,Vi 0,.bool false] (k1*3)) 116))).set 22 (.slice (some (Ad w2.heap.size 0)) k1 k1));have HB2:=Zab ((Zac HB1.out (Zaa w2 (.cells (madeCells #[Vi 0,Vi 0,.bool false] (k1*3)) 116))).setCell (p:=⟨O,22,none⟩) (by have:=HN1.out;simp;omega) (.slice (some (Ad w2.heap.size 0)) k1 k1));have HZ1:=Zab ((zs_made k1 w2).far (V:=O) (j:=22) (v:=.slice (some (Ad w2.heap.size 0)) k1 k1) (by intro b off e;cases e;have:=HN3.out;omega));have HZ2:=Zab ((HZ0.out.later (Zaa w2 (.cells (madeCells #[Vi 0,Vi 0,.bool false] (k1*3)) 116))).far (V:=O) (j:=22) (v:=.slice (some (Ad w2.heap.size 0)) k1 k1) (by intro b off e;cases e;exact HN0.out.1));clear HC1 HR1 HS1 HB1 HZ0;rw[rounds_succ];go_wp2_with fail;generalize hw3:(w2.alloc (.cells (madeCells #[Vi 0,Vi 0,.bool false] (k1*3)) 116)).setCell (Ad O 22) (.slice (some (Ad w2.heap.size 0)) k1 k1)=w3 at *;clear hw3 kc4 q22 r22;have HN5:Hid (w2.heap.size≠w.heap.size+1):=Zab (by have:=HN4.out;omega);generalize w2.heap.size=G1 at*
 have HU:Hid ((w3.setCells (w.heap.size+1) 0 [Vi 0,Vi 0,Vi 0,.bool false,.bool false,.bool false,Vi 0,Vi 0,Vi 0,Vi 0,.bool false,.bool false,.bool false,Vi 0,Vi 0,Vi 0,Vi 0,.bool false,.bool false,.bool false,Vi 0,.slice (some (Ad G0 0)) k0 k0,.slice (some (Ad G1 0)) k1 k1,Vi 0,Vi 0,Vi 0,Vi 0,Vi 0,Vi 0,Vi 0]).rangeAt (w.heap.size+1) 0 [Vi 0,Vi 0,Vi 0,.bool false,.bool false,.bool false,Vi 0,Vi 0,Vi 0,Vi 0,.bool false,.bool false,.bool false,Vi 0,Vi 0,Vi 0,Vi 0,.bool false,.bool false,.bool false,Vi 0,.slice (some (Ad G0 0)) k0 k0,.slice (some (Ad G1 0)) k1 k1,Vi 0,Vi 0,Vi 0,Vi 0,Vi 0,Vi 0,Vi 0]):=Zab (World.rangeAt_setCells_same _ _ _ _ (HR2.out.there rfl));have HV0:=Zab (Zgs (V:=w.heap.size+1) (by intro b off e;cases e;exact HN0.out.2) [Vi 0,Vi 0,Vi 0,.bool false,.bool false,.bool false,Vi 0,Vi 0,Vi 0,Vi 0,.bool false,.bool false,.bool false,Vi 0,Vi 0,Vi 0,Vi 0,.bool false,.bool false,.bool false,Vi 0,.slice (some (Ad G0 0)) k0 k0,.slice (some (Ad G1 0)) k1 k1,Vi 0,Vi 0,Vi 0,Vi 0,Vi 0,Vi 0,Vi 0] 0 w3 HZ2.out);have HV1:=Zab (Zgs (V:=w.heap.size+1) (by intro b off e;cases e;exact HN5.out) [Vi 0,Vi 0,Vi 0,.bool false,.bool false,.bool false,Vi 0,Vi 0,Vi 0,Vi 0,.bool false,.bool false,.bool false,Vi 0,Vi 0,Vi 0,Vi 0,.bool false,.bool false,.bool false,Vi 0,.slice (some (Ad G0 0)) k0 k0,.slice (some (Ad G1 0)) k1 k1,Vi 0,Vi 0,Vi 0,Vi 0,Vi 0,Vi 0,Vi 0] 0 w3 HZ1.out);have HBU:=Zab (Zgt [Vi 0,Vi 0,Vi 0,.bool false,.bool false,.bool false,Vi 0,Vi 0,Vi 0,Vi 0,.bool false,.bool false,.bool false,Vi 0,Vi 0,Vi 0,Vi 0,.bool false,.bool false,.bool false,Vi 0,.slice (some (Ad G0 0)) k0 k0,.slice (some (Ad G1 0)) k1 k1,Vi 0,Vi 0,Vi 0,Vi 0,Vi 0,Vi 0,Vi 0] 0 w3 HB2.out (b:=w.heap.size+1) (by omega));have HTH:Hid (w3.there (w.heap.size+1) 0 30):=Zab (HR2.out.there rfl);clear HB2 HZ1 HZ2 HR2 HN0 HN5;rw[rounds_succ]
 go_wp2_with (first
  |(refine Lq 41 _ rfl ?_;refine wpList_load_mid rfl 41 (.tmp 3) rfl O 0 rfl [Vi 0,Vi 0,Vi 0,.bool false,.bool false,.bool false,Vi 0,Vi 0,Vi 0,Vi 0,.bool false,.bool false,.bool false,Vi 0,Vi 0,Vi 0,Vi 0,.bool false,.bool false,.bool false,Vi 0,.slice (some (Ad G0 0)) k0 k0,.slice (some (Ad G1 0)) k1 k1,Vi 0,Vi 0,Vi 0,Vi 0,Vi 0,Vi 0,Vi 0] _ HS2.out.range underlying41 rfl Zbf ?_)
  |(refine Sq 41 _ _ rfl ?_;refine wpList_store_mid rfl 41 (.tmp 2) (.tmp 19) rfl (w.heap.size+1) 0 #[Vi 0,Vi 0,Vi 0,.bool false,.bool false,.bool false,Vi 0,Vi 0,Vi 0,Vi 0,.bool false,.bool false,.bool false,Vi 0,Vi 0,Vi 0,Vi 0,.bool false,.bool false,.bool false,Vi 0,.slice (some (Ad G0 0)) k0 k0,.slice (some (Ad G1 0)) k1 k1,Vi 0,Vi 0,Vi 0,Vi 0,Vi 0,Vi 0,Vi 0] rfl rfl HTH.out Zbf (Zaq _ rfl) ?_))
 generalize hU:w3.setCells (w.heap.size+1) 0 _=U at *;clear hU;refine bodyPost_ret (v:=.agg #[Vi 0,Vi 0,Vi 0,.bool false,.bool false,.bool false,Vi 0,Vi 0,Vi 0,Vi 0,.bool false,.bool false,.bool false,Vi 0,Vi 0,Vi 0,Vi 0,.bool false,.bool false,.bool false,Vi 0,.slice (some (Ad G0 0)) k0 k0,.slice (some (Ad G1 0)) k1 k1,Vi 0,Vi 0,Vi 0,Vi 0,Vi 0,Vi 0,Vi 0]) (res_new _ U (w.heap.size+1) [Vi 0,Vi 0,Vi 0,.bool false,.bool false,.bool false,Vi 0,Vi 0,Vi 0,Vi 0,.bool false,.bool false,.bool false,Vi 0,Vi 0,Vi 0,Vi 0,.bool false,.bool false,.bool false,Vi 0,.slice (some (Ad G0 0)) k0 k0,.slice (some (Ad G1 0)) k1 k1,Vi 0,Vi 0,Vi 0,Vi 0,Vi 0,Vi 0,Vi 0] rfl HU.out rfl) rfl ⟨G0,G1,k0,k1,⟨rfl,rfl⟩,rfl,HV0.out,HV1.out,HBU.out⟩
def fmk2{α:Type}(a b:α)(i:Nat):α:=if i=0 then a else b
def encP(l:List Rp):List Value:=l.flatMap rpL
theorem rpL_len(r:Rp):(rpL r).length=15:=rfl
def RpO(K:Nat)(u:World)(s:Value)(rs:List Rp):Prop:=u.ownsRow K 95 15 s rs.length (encP rs)
theorem RpO.nil(K:Nat)(u:World):RpO K u (.slice none 0 0) []:=World.ownsRow_nil _ _ _ _
theorem RpO.later{K:Nat}{u u':World}{s:Value}{rs:List Rp}(h:RpO K u s rs)(hb:Below u.heap.size u u'):RpO K u' s rs:=Zaz h hb
theorem RpO.oth{K B:Nat}{u u':World}{s:Value}{rs:List Rp}(h:RpO K u s rs)(hB:B<K)(ho:Oth u u' B):RpO K u' s rs:=
 World.ownsRow.kept h ho.grown (by
  cases e:s.ownBlock with
  |none=>exact .inl rfl
  |some k=>exact .inr (fun e2=>by have:=(World.ownsRow.lt h k e).1;cases e2;omega))
theorem Oth.grew{w u u':World}{B:Nat}{row:Option Nat}(h:Oth w u B)(hg:u.grownBy u' row)(hr:∀g,row=some g→w.heap.size≤g):Oth w u' B:=
 ⟨Nat.le_trans h.1 hg.size,hg.os.trans h.2.1,hg.tape.trans h.2.2.1,hg.output.trans h.2.2.2.1,fun b h1 h2=>(hg.block b (Nat.lt_of_lt_of_le h1 h.1) (fun e=>by have:=hr b e.symm;omega)).trans (h.2.2.2.2 b h1 h2)⟩
theorem ax_ok{a0 a1 a2 a3 a4 a5 a6 a7 a8 a9 a10 a11 a14 x y z:Int}(h:AxK a0 a1 a2 a3 a4 a5 a6 a7 a8 a9 a10 a11 a14)(hx:100≤x∧x≤999)(hy:0≤y∧y≤65536)(hz:0≤z∧z≤299)(k:Nat):eAx a0 a1 a2 a3 a4 a5 a6 a7 a8 a9 a10 a11 a14 [0,x] [y,z] k=0:=by
 have m5:=Zgx h.s0 h.s1 h.t0 h.t1;have m6:=Zgx h.s0 h.s1 h.r0 (by have:=h.r1;have:=h.t1;omega);have mm:=Int.mul_le_mul_of_nonneg_left h.r1 (show 0≤a4-1 by have:=h.s0;omega);obtain⟨lo,lz,hz',hi,n0,n1,p0,p1,s0,s1,t0,t1,r0,r1,k0,k1,l0,l1,c0,c1,w0,w1,u0,u1,b0,b1,pr,room⟩:=h
 match k with
 |0=>show rgE a4 a3=0;unfold rgE;rw[if_pos (by rw[Zbm s0 s1,Zbm p0 p1];rfl)]
 |1=>show Zdh a8 a9=0;unfold Zdh;rw[if_pos (by simp only[ruleB,Bool.and_eq_true,decide_eq_true_eq];omega)]
 |2=>show arE a5 a6 a7 a10=0;unfold arE;rw[if_pos (by simp only[arB,Bool.and_eq_true];exact⟨⟨⟨Zbm t0 t1,Zbm r0 r1⟩,Zbm k0 k1⟩,Zbm w0 w1⟩)]
 |3=>
  show grE a0 a1 a2 (a3+a7) ((a4-1)*a5) ((a4-1)*a6)=0
  unfold grE
  rw[if_pos (by simp only[grB,Bool.and_eq_true,decide_eq_true_eq];omega),if_pos (by simp only[gfB,Bool.and_eq_true,decide_eq_true_eq];omega)]
 |4=>
  show ruE a0 a1 a11 a14 ((a4-1)*a5) [0,x] [y,z]=0
  have hl:Zdw [0,x] [y,z]=0:=by
   have e1:Zbi [0,x]=0:=by unfold Zbi;rw[if_pos (by simp[Zba];omega)]
   have e2:Zbi [y,z]=0:=by unfold Zbi;rw[if_pos (by simp[Zba];omega)]
   have e3:Zbt [0,x] 1=false:=by simp[Zbt,at0];omega
   unfold Zdw Zbp
   simp[e1,e2,e3]
  have hr:r0E a0 a1 a11 a14 ((a4-1)*a5) [0,x] [y,z]=0:=by
   unfold r0E
   rw[hl,if_pos (by simp only[ruB,Bool.and_eq_true,betw,decide_eq_true_eq];omega),if_neg (by omega)]
   rfl
  have hg:gaU [y,z] 2=0:=by
   rw[gaU,gaU,gaU,firstI_two,firstI_two];rw[if_pos (by rw[if_pos rfl,if_pos (show betw (at0 [y,z] 0) 0 65536=true from Zbm hy.1 hy.2)]),if_pos (show betw (at0 [y,z] 1) 0 65536=true from Zbm hz.1 (by have:=hz.2;show z≤65536;omega))]
  unfold ruE
  rw[if_pos hr];exact hg
 |k+5=>show fmE a8 a2 a0 a1=0;unfold fmE;rw[if_neg (by omega)]
theorem craftFrom_c(a:Option Addr)(l:List Int)(cap:Nat)(hl:l.length≤100)(w:World)(hil:ILs w a l):
 Calls prog 21 #[.slice a l.length cap] w fun e w'=>(∃C:CR,e=.returned (.agg (crL C).toArray)∧crE C=0∧CrL w' C∧(∀i,i<2→(C.al i).length=2∧(C.zl i).length=2))∧Below w.heap.size w w':=by
 refine(craftFrom_full a l cap hl w hil).mono ?_;rintro e w' ⟨⟨v,rfl,⟨a0,a1,a2,a3,a4,a5,a6,a7,a8,a9,a10,a11,a14,G1,G2,x,y,z,⟨h0,h1,h2,h3,h4,h5,h6,h7,h8,h9,h10,h11,h12,h13,h14⟩,hk,hg,_,_⟩,⟨b0,b1,b2,b3,b4,b5,b6,b7,b8,b9,b10,b11,b14,K1,K2,p,q,r,⟨g0,g1,g2,g3,g4,g5,g6,g7,g8,g9,g10,g11,g12,g13,g14⟩,hk',hg',_,_⟩,⟨c0,e30,c00,c01⟩,⟨c1,e31,c10,c11⟩⟩,hb⟩;refine⟨⟨⟨fmk2 (fun j=>[a0,a1,a2,a3,a4,a5,a6,a7,a8,a9,a10,a11,0,0,a14].getD j 0) (fun j=>[b0,b1,b2,b3,b4,b5,b6,b7,b8,b9,b10,b11,0,0,b14].getD j 0),fmk2 (some (Ad G1 0)) (some (Ad K1 0)),fmk2 (some (Ad G2 0)) (some (Ad K2 0)),fmk2 [0,x] [0,p],fmk2 [y,z] [q,r],fun _=>2,fun _=>2,c0,c1⟩,?_,?_,fun i hi=>?_,fun i hi=>?_⟩,hb⟩
 · simp only[Nat.zero_add,Nat.reduceAdd] at h0 h1 h2 h3 h4 h5 h6 h7 h8 h9 h10 h11 h12 h13 h14 g0 g1 g2 g3 g4 g5 g6 g7 g8 g9 g10 g11 g12 g13 g14;rw[h0,h1,h2,h3,h4,h5,h6,h7,h8,h9,h10,h11,h12,h13,h14,g0,g1,g2,g3,g4,g5,g6,g7,g8,g9,g10,g11,g12,g13,g14,e30,e31]
   rfl
 · refine Zel fun j hj=>?_
   show eCr a0 a1 a2 a3 a4 a5 a6 a7 a8 a9 a10 a11 a14 [0,x] [y,z] b0 b1 b2 b3 b4 b5 b6 b7 b8 b9 b10 b11 b14 [0,p] [q,r] c0 c1 j=0
   unfold eCr
   split
   · exact ax_ok hk hg.2.1 hg.2.2.1 hg.2.2.2 j
   · split
     · exact ax_ok hk' hg'.2.1 hg'.2.2.1 hg'.2.2.2 _
     · unfold Zdh
       rw[if_pos (by simp only[ruleB,Bool.and_eq_true,decide_eq_true_eq];omega)]
 · have two:∀(u:World) (G:Nat) (s t:Int),u.cell? (Ad G 0)=some (Vi s)→u.cell? (Ad G 1)=some (Vi t)→Lst u (some (Ad G 0)) [s,t]:=fun u G s t h k=>.inr ⟨G,0,rfl,fun j hj=>by
    match j,hj with
    |0,_=>exact h
    |1,_=>exact k⟩
   rcases(show i=0∨i=1 by omega) with rfl|rfl
   · exact⟨by show 2≤_;omega,by show 2≤_;omega,Nat.le_refl 2,two _ _ _ _ hg.1.1 hg.1.2.1,two _ _ _ _ hg.1.2.2.1 hg.1.2.2.2⟩
   · exact⟨by show 2≤_;omega,by show 2≤_;omega,Nat.le_refl 2,two _ _ _ _ hg'.1.1 hg'.1.2.1,two _ _ _ _ hg'.1.2.2.1 hg'.1.2.2.2⟩
 · rcases(show i=0∨i=1 by omega) with rfl|rfl<;>exact⟨rfl,rfl⟩
end Go.Proofs.YtnfdfiholcelaaaGreatDoor
namespace Go.Proofs.YtnfdfiholcelaaaGreatDoor
open Go.RowKit Tryz
section
variable {P : Program} {md : Region.Mode} {ops : Array Oper} {Q : Exit → Act → World → Prop} {w0 : World} {D : List Nat} {F : (Nat → Value) → Act} {S' : World → Prop} {listed0 : Array Bool} {fuel : Nat} {r : List Ent}
theorem Cbs{z:List Value}{t:TypeId}{n:Nat}(i d:Nat)(cl:List Nat){o:Oper}
 (k:Cb P md ops Q w0 D F S' listed0 fuel (⟨i,d,false,fun y w=>∃X,y d=.slice (some (Ad X 0)) n n∧w.heap[X]?=some (.cells z.toArray t (0,0))∧w0.heap.size≤X⟩::r))
 (ho:ops[i]?=some o:=by rfl) (hc:Zeo md ops D listed0 cl i d false r=true:=by kernel_rfl)
 (hw:∀y w,depF cl y w r→Region.wanted o (yielded ops (F y).tmps)=true:=by intro y w hF;rfl)
 (hy:∀y w,depF cl y w r→(execOp (F y).eval o).run P w=.ok (.value (.slice (some (Ad w.heap.size 0)) n n)) (w.alloc (.cells z.toArray t)):=by intro y w hF;simp only[depF,List.contains_cons,List.contains_nil,Nat.reduceBEq,Bool.or_false,Bool.or_true,if_true,if_false,Bool.false_eq_true] at hF;go_simp;(try first|with_reducible rfl|rfl)):
 Cb P md ops Q w0 D F S' listed0 fuel r:=
 Cv i d cl _ (fun y w hS hF=>⟨_,_,hy y w hF,(Below.refl _ _).alloc (Nat.le_refl _) _,w.heap.size,if_pos rfl,World.alloc_heap_new w _,hS.size⟩) k
  (fun _ _ _ _ ⟨X,h1,h2,h3⟩ ha hb=>⟨X,(ha _ (List.mem_cons_self ..)).trans h1,(hb.block X (Array.getElem?_eq_some_iff.1 h2).1).trans h2,h3⟩) ho hc hw
theorem Cg{f:Nat}{v:Value}{z:List Value}{t:TypeId}{n:Nat}(i d j dj:Nat){o:Oper}
 (h:∀X w,Below w0.heap.size w0 w→w.heap[X]?=some (.cells z.toArray t (0,0))→Calls P f #[.slice (some (Ad X 0)) n n] w fun e w'=>e=.returned v∧Below w.heap.size w w')
 (k:Cb P md ops Q w0 D F S' listed0 fuel (⟨i,d,false,fun y _=>y d=v⟩::r))
 (hj:∀y w,depF [j] y w r→∃X,y dj=.slice (some (Ad X 0)) n n∧w.heap[X]?=some (.cells z.toArray t (0,0))∧w0.heap.size≤X:=by intro y w hF;exact hF.1)
 (ho:ops[i]?=some o:=by rfl) (hc:Zeo md ops D listed0 [j] i d false r=true:=by kernel_rfl)
 (hw:∀y w,depF [j] y w r→Region.wanted o (yielded ops (F y).tmps)=true:=by intro y w hF;rfl)
 (hy:∀y w X,y dj=.slice (some (Ad X 0)) n n→(execOp (F y).eval o).run P w=.ok (.enter f #[.slice (some (Ad X 0)) n n]) w:=by intro y w X hF;go_simp;(try first|with_reducible rfl|rfl)):
 Cb P md ops Q w0 D F S' listed0 fuel r:=
 Co i d [j] _ (fun y w hS hF K hK=>by
  obtain⟨X,e,hX,_⟩:=hj y w hF;rw[if_pos (hw y w hF)]
  unfold Oper.wp
  rw[hy y w X e,Oper.upon_enter];obtain⟨_,_,_,o',ho',hd,_⟩:=Zcc hc;rw[ho] at ho'
  cases ho'
  refine Sb (h X w hS hX) fun w' hb=>?_
  show K ((F y).put o.dst v) w'
  rw[hd]
  exact hK v w' hb (if_pos rfl)) k (fun _ _ _ _ h ha _=>(ha _ (List.mem_cons_self ..)).trans h) ho hc
end
end Go.Proofs.YtnfdfiholcelaaaGreatDoor
namespace Go.Proofs.YtnfdfiholcelaaaGreatDoor
open Go.RowKit Plain Tryz
end Go.Proofs.YtnfdfiholcelaaaGreatDoor
