import Derived.RangeFuncRecord
import Derived.Test.YtnepnnkdgejheaaGreatDoorKp00
set_option maxRecDepth 100000
set_option maxHeartbeats 20000000
namespace Go.Proofs.YtnepnnkdgejheaaGreatDoor
open Go.RowKit Tryz
variable {D cl:List Nat}{F F':(Nat->Value)->Act}{P:Program}{Q:Exit->Act->World->Prop}{S S':V6->Prop}{args:Array Value}{b f fuel i id j n off:Nat}{cs l0 z:List Value}{e:TypeDesc}{l listed listed0:Array Bool}{md:Region.Mode}{o:Oper}{ops:Array Oper}{t ty:TypeId}{v:Value}{w:V6}{x:Operand}
def CO(D:List Nat)(y:Nat->Value):Nat->List Value->List Value
 |_,[]=>[]
 |k,x::xs=>(if D.contains k=true then y k else x)::CO D y (k+1) xs
def ups(y:Nat->Value)(d:Nat)(v:Value):Nat->Value:=fun t=>if t=d then v else y t
theorem GG(D:List Nat)(y:Nat->Value):∀(l:List Value) (k:Nat),(CO D y k l).length=l.length
 |[],_=>rfl
 |_::xs,k=>by simp[CO,GG D y xs (k+1)]
theorem K3(D:List Nat)(y:Nat->Value):∀(l:List Value) (k t:Nat),(CO D y k l)[t]?=(l[t]?).map fun x=>if D.contains (k+t)=true then y (k+t) else x
 |[],_,_=>by simp[CO]
 |x::xs,k,0=>by simp[CO]
 |x::xs,k,t+1=>by
  rw[CO,List.getElem?_cons_succ,List.getElem?_cons_succ,K3 D y xs (k+1) t,show k+1+t=k+(t+1) by omega]
theorem Jhd(D:List Nat)(y:Nat->Value)(l:List Value)(d:Nat)(v:Value)(hd:D.contains d=true):
 (CO D y 0 l).toArray.setIfInBounds d v=(CO D (ups y d v) 0 l).toArray:=by
 rw[List.setIfInBounds_toArray]
 congr 1
 apply List.ext_getElem?;intro t;rw[K3,List.getElem?_set,GG,K3]
 by_cases h:d=t
 . subst h
   by_cases hl:d<l.length
   . simp only[if_true,hl,Nat.zero_add,hd,List.getElem?_eq_getElem hl,Option.map_some,ups]
   . simp[hl]
 . rw[if_neg h]
   congr 1
   funext x
   simp only[Nat.zero_add,ups,if_neg (Ne.symm h)]
theorem NG(D:List Nat):∀(l:List Value) (k:Nat) (y:Nat->Value),(∀t,t<l.length->y (k+t)=l.getD t undef)->CO D y k l=l
 |[],_,_,_=>rfl
 |x::xs,k,y,h=>by
  have h0:=h 0 (by simp)
  simp at h0
  rw[CO,NG D xs (k+1) y (fun t ht=>by have:=h (t+1) (by simpa using ht);simpa[Nat.add_assoc,Nat.add_comm 1 t] using this),h0]
  simp
structure Ent where
 i:Nat
 d:Nat
 g:Bool
 V:(Nat->Value)->World->Prop
def XP(md:Region.Mode)(ops:Array Oper)(k n:Nat):Bool:=((ops[k]?).map fun o=>o.after.toList.any fun e=>Region.binds md e&&e.on==n).getD false
def K4(md:Region.Mode)(ops:Array Oper):List Nat->List Nat->Bool
 |_,[]=>true
 |kn,c::r=>kn.any (fun k=>XP md ops k c)&&K4 md ops (c::kn) r
def clo(md:Region.Mode)(ops:Array Oper):Nat->List Nat->List Nat
 |0,s=>s
 |n+1,s=>if s.any (fun k=>XP md ops k n)=true then clo md ops n (n::s) else clo md ops n s
def BF(md:Region.Mode)(ops:Array Oper)(listed:Array Bool):Prop:=
 ∀i o,listed.getD i false=true->ops[i]?=some o->∀e∈o.after,Region.binds md e=true->listed.getD e.on false=true
def GH(md:Region.Mode)(ops:Array Oper)(listed:Array Bool)(k:Nat):Prop:=∀n,XP md ops k n=true->listed.getD n false=true
theorem E2(h:∀o,ops[i]?=some o->∀e∈o.after,Region.binds md e=true->listed.getD e.on false=true):GH md ops listed i:=by
 intro n hn
 unfold XP at hn
 cases ho:ops[i]? with
 |none=>simp[ho] at hn
 |some o=>
  simp only[ho,Option.map_some,Option.getD_some,List.any_eq_true,Bool.and_eq_true,beq_iff_eq] at hn;obtain⟨e,he,hb,rfl⟩:=hn;exact h o ho e (by simpa using he) hb
theorem GJ(hc:BF md ops listed):
 ∀(cl kn:List Nat),(∀k∈kn,GH md ops listed k)->K4 md ops kn cl=true->∀c∈cl,listed.getD c false=true
 |[],_,_,_,_,h=>by cases h
 |c::r,kn,hk,hp,x,hx=>by
  simp only[K4,Bool.and_eq_true,List.any_eq_true] at hp;obtain⟨⟨k,ha,hd⟩,hr⟩:=hp;have hl:=hk k ha c hd
  rcases List.mem_cons.1 hx with rfl|hx
  . exact hl
  . exact GJ hc r (c::kn) (fun k hk'=>by
     rcases List.mem_cons.1 hk' with rfl|hk'
     . exact E2 (fun o ho=>hc _ o hl ho)
     . exact hk k hk') hr x hx
theorem Ms(hc:BF md ops listed):
 ∀(n:Nat) (s:List Nat),(∀k∈s,GH md ops listed k)->∀c∈clo md ops n s,c∈s\/listed.getD c false=true
 |0,_,_,_,h=>.inl h
 |n+1,s,hk,c,h=>by
  unfold clo at h
  by_cases h1:s.any (fun k=>XP md ops k n)=true
  . rw[if_pos h1] at h;simp only[List.any_eq_true] at h1;obtain⟨k,ha,hd⟩:=h1;have hl:=hk k ha n hd
    rcases Ms hc n (n::s) (fun k hk'=>by
     rcases List.mem_cons.1 hk' with rfl|hk'
     . exact E2 (fun o ho=>hc _ o hl ho)
     . exact hk k hk') c h with h|h
    . rcases List.mem_cons.1 h with rfl|h
      . exact .inr hl
      . exact .inl h
    . exact .inr h
  . rw[if_neg h1] at h;exact Ms hc n s hk c h
def AH(cl:List Nat)(y:Nat->Value)(w:V6):List Ent->Prop
 |[]=>True
 |e::r=>if cl.contains e.i=true then e.V y w/\AH cl y w r else AH cl y w r
def I5(cl:List Nat):List Ent->List Nat
 |[]=>[]
 |e::r=>if cl.contains e.i=true then e.d::I5 cl r else I5 cl r
def LU(y:Nat->Value)(w:V6):List Ent->Prop
 |[]=>True
 |e::r=>e.V y w/\LU y w r
section
variable (P : Program) (md : Region.Mode) (ops : Array Oper) (Q : Exit -> Act -> World -> Prop) (S : World -> Prop) (R : World -> World -> Prop) (D : List Nat) (F : (Nat -> Value) -> Act)
def Ob(S':V6->Prop)(cl:List Nat)(e:Ent)(r:List Ent):Prop:=
 (∀y y' w w',e.V y w->(∀t∈e.d::I5 cl r,y' t=y t)->R w w'->e.V y' w')/\∀y w,S w->AH cl y w r->
  if e.g=true then ∃o v,ops[e.i]?=some o/\o.dst=some e.d/\YieldsIf P ops S' o v (F y)/\e.V (ups y e.d v) w
  else wpOp P ops Q e.i (fun a' w'=>∃v,a'=(F y).put (Option.some e.d) v/\R w w'/\S w'/\e.V (ups y e.d v) w') (F y) w
def Jlt(md:Region.Mode)(ops:Array Oper)(i:Nat):Bool:=
 ((ops[i]?).map fun oi=>(List.range ops.size).all fun j=>j==i||((clo md ops ops.size [i]).contains j||(XP md ops j i||((ops[j]?).map fun oj=>oi.apart ops oj).getD false))).getD false
def Yn(listed:Array Bool)(cl:List Nat)(i d:Nat)(g:Bool)(r:List Ent):Bool:=
 (!g||Jlt md ops i)&&(D.contains d&&(!listed.getD i true&&(r.all (fun e=>e.i != i&&e.d != d)&&(K4 md ops [i] cl&&
  (((ops[i]?).map fun o=>(o.dst==some d)&&o.after.toList.all fun e=>!Region.binds md e||(listed.getD e.on false||r.any fun x=>x.i==e.on)).getD false)))))
def Obs(S':V6->Prop)(listed:Array Bool):List Ent->Prop
 |[]=>True
 |e::r=>(∃cl,Ob P ops Q S R F S' cl e r/\Yn md ops D listed cl e.i e.d e.g r=true)/\Obs S' listed r
end
def FG(l0:Array Bool):List Ent->Array Bool
 |[]=>l0
 |e::r=>(FG l0 r).setIfInBounds e.i true
theorem N4(l0:Array Bool):∀r,(FG l0 r).size=l0.size
 |[]=>rfl
 |e::r=>by simp[FG,N4 l0 r]
theorem Ja2(h:l.getD j false=true):j<l.size:=by
 rcases Nat.lt_or_ge j l.size with h'|h'
 . exact h'
 . simp[Array.getElem?_eq_none h'] at h
theorem Uj(h:l.getD j true=false):j<l.size/\l.getD j false=false:=by
 rcases Nat.lt_or_ge j l.size with h'|h'
 . exact⟨h',by simpa[h'] using h⟩
 . simp[Array.getElem?_eq_none h'] at h
theorem P0(h:j<l.size):l.getD j true=l.getD j false:=by simp[h]
theorem TD(l0:Array Bool):∀(r:List Ent) (j:Nat),(FG l0 r).getD j false=true↔l0.getD j false=true\/(j<l0.size/\∃e∈r,e.i=j)
 |[],j=>by simp[FG]
 |e::r,j=>by
  rw[FG]
  by_cases h:e.i=j
  . subst h
    constructor
    . intro h1;have:=Ja2 h1;rw[Array.size_setIfInBounds,N4] at this;exact .inr ⟨this,e,by simp,rfl⟩
    . rintro(h1|⟨h1,_⟩)
      . have:=Ja2 h1
        simp[N4,this]
      . simp[N4,h1]
  . rw[getD_set_ne false h,TD l0 r j]
    constructor
    . rintro(h1|⟨h1,x,hx,hj⟩)
      . exact .inl h1
      . exact .inr ⟨h1,x,by simp[hx],hj⟩
    . rintro(h1|⟨h1,x,hx,hj⟩)
      . exact .inl h1
      . rcases List.mem_cons.1 hx with rfl|hx
        . exact absurd hj h
        . exact .inr ⟨h1,x,hx,hj⟩
def Xd(listed:Array Bool):List Ent->Nat
 |[]=>0
 |e::r=>(if listed.getD e.i true=false then 1 else 0)+Xd listed r
theorem CZ:∀{r:List Ent},Xd listed r=0->∀e∈r,listed.getD e.i true=true
 |[],_,_,h=>by cases h
 |e::r,h,x,hx=>by
  rw[Xd] at h
  rcases List.mem_cons.1 hx with rfl|hx
  . by_cases h1:listed.getD x.i true=false
    . rw[if_pos h1] at h;omega
    . simpa using h1
  . exact CZ (by omega) x hx
theorem NH:∀{r:List Ent},(∀e∈r,e.i≠i)->Xd (listed.setIfInBounds i true) r=Xd listed r
 |[],_=>rfl
 |e::r,h=>by
  rw[Xd,Xd,NH (fun x hx=>h x (by simp[hx])),getD_set_ne true (Ne.symm (h e (by simp)))]
def Apt:List Ent->Prop
 |[]=>True
 |e::r=>(∀x∈r,x.i≠e.i/\x.d≠e.d)/\Apt r
theorem NI:∀{r:List Ent},Apt r->(∃e∈r,e.i=i)->listed.getD i true=false->Xd listed r=Xd (listed.setIfInBounds i true) r+1
 |[],_,⟨e,he,_⟩,_=>by cases he
 |e::r,ha,⟨x,hx,hi⟩,hl=>by
  rw[Xd,Xd];have hb:=(Uj hl).1
  by_cases h:e.i=i
  . subst h;rw[NH (fun x hx=>(ha.1 x hx).1),if_pos hl]
    have:(listed.setIfInBounds e.i true).getD e.i true=true:=by simp[hb]
    rw[this];simp;omega
  . rcases List.mem_cons.1 hx with rfl|hx
    . exact absurd hi h
    . rw[NI ha.2 ⟨x,hx,hi⟩ hl,getD_set_ne true (Ne.symm h)];omega
theorem BF.set(hc:BF md ops listed)(hi:i∈Region.ready md ops listed):BF md ops (listed.setIfInBounds i true):=by
 intro j o hj ho e he hb
 by_cases h:i=j
 . subst h;obtain⟨_,o',ho',ha⟩:=mem_ready.1 hi;rw[ho] at ho'
   cases ho'
   exact getD_set_true (ha e he hb)
 . rw[getD_set_ne false h] at hj;exact getD_set_true (hc j o hj ho e he hb)
theorem Obs.apt{R:V6->World->Prop}:
 ∀{r:List Ent},Obs P md ops Q S R D F S' listed r->Apt r
 |[],_=>trivial
 |e::r,h=>by
  obtain⟨⟨cl,_,h1⟩,h2⟩:=h;simp only[Yn,Bool.and_eq_true,List.all_eq_true,bne_iff_ne] at h1;exact⟨h1.2.2.2.1,h2.apt⟩
theorem Wb{d:Nat}{g:Bool}{r:List Ent}(h:Yn md ops D listed cl i d g r=true):
 D.contains d=true/\listed.getD i true=false/\K4 md ops [i] cl=true/\∃o,ops[i]?=some o/\o.dst=some d/\∀e∈o.after,Region.binds md e=true->listed.getD e.on false=true\/∃x∈r,x.i=e.on:=by
 unfold Yn at h
 simp only[Bool.and_eq_true,List.all_eq_true,Bool.not_eq_true'] at h;obtain⟨_,h1,h2,_,h4,h5⟩:=h;refine⟨h1,h2,h4,?_⟩
 cases ho:ops[i]? with
 |none=>simp[ho] at h5
 |some o=>
  simp only[ho,Option.map_some,Option.getD_some,List.all_eq_true,Bool.and_eq_true,beq_iff_eq] at h5;refine⟨o,rfl,h5.1,fun e he hb=>?_⟩;have:=h5.2 e (by simpa using he)
  simpa[hb] using this
theorem Obs.any{R:V6->World->Prop}(ha:∀j,listed0.getD j false=true->listed.getD j false=true)(hd:listed.size=listed0.size):
 ∀{r:List Ent},Obs P md ops Q S R D F S' listed0 r->Xd listed r≠0->∃e∈r,e.i∈Region.ready md ops listed
 |[],_,h=>absurd rfl h
 |e::r,h,hn=>by
  by_cases hr:Xd listed r=0
  . rw[Xd,hr] at hn;obtain⟨⟨cl,_,h1⟩,h2⟩:=h;obtain⟨_,hf,_,o,ho,_,hc⟩:=Wb h1
    have hl:listed.getD e.i true=false:=by
     by_cases h1:listed.getD e.i true=false
     . exact h1
     . rw[if_neg h1] at hn;exact absurd rfl hn
    refine⟨e,by simp,mem_ready.2 ⟨hl,o,ho,fun x hx hb=>?_⟩⟩
    rcases hc x hx hb with h3|⟨z,hz,he⟩
    . exact ha _ h3
    . have h4:=CZ hr z hz;rw[he] at h4
      have:x.on<listed0.size:=by
       clear h1 hc hl hf;rw[<-he]
       have:∀{r:List Ent},Obs P md ops Q S R D F S' listed0 r->∀z∈r,z.i<listed0.size:=by
        intro r
        induction r with
        |nil=>intro _ z hz;cases hz
        |cons e r ih=>
         intro h z hz;obtain⟨⟨cl,_,h1⟩,h2⟩:=h
         rcases List.mem_cons.1 hz with rfl|hz
         . exact(Uj (Wb h1).2.1).1
         . exact ih h2 z hz
       exact this h2 z hz
      rw[<-P0 (by rw[hd];exact this)];exact h4
  . obtain⟨x,hx,h1⟩:=Obs.any ha hd h.2 hr;exact⟨x,by simp[hx],h1⟩
section
variable {P : Program} {md : Region.Mode} {ops : Array Oper} {Q : Exit -> Act -> World -> Prop} {S S' : World -> Prop} {R : World -> World -> Prop} {D : List Nat} {F : (Nat -> Value) -> Act}
theorem Obs.lt:∀{r:List Ent},Obs P md ops Q S R D F S' listed0 r->∀z∈r,listed0.getD z.i true=false
 |[],_,_,hz=>by cases hz
 |e::r,h,z,hz=>by
  obtain⟨⟨cl,_,h1⟩,h2⟩:=h
  rcases List.mem_cons.1 hz with rfl|hz
  . exact(Wb h1).2.1
  . exact h2.lt z hz
theorem Ja3{y:Nat->Value}:∀{r:List Ent},(∀e∈r,e.i∈cl->e.V y w)->AH cl y w r
 |[],_=>trivial
 |e::r,h=>by
  unfold AH
  have h2:=Ja3 (r:=r) (fun x hx hc=>h x (by simp[hx]) hc)
  by_cases hc:cl.contains e.i=true
  . rw[if_pos hc];exact⟨h e (by simp) (by simpa using hc),h2⟩
  . rw[if_neg hc];exact h2
theorem Ja4{y:Nat->Value}:∀{r:List Ent},(∀e∈r,e.V y w)->LU y w r
 |[],_=>trivial
 |e::r,h=>⟨h e (by simp),Ja4 (fun x hx=>h x (by simp[hx]))⟩
theorem E3:∀{r:List Ent} {t:Nat},t∈I5 cl r->∃x∈r,x.i∈cl/\x.d=t
 |[],_,h=>by simp[I5] at h
 |e::r,t,h=>by
  unfold I5 at h
  by_cases hc:cl.contains e.i=true
  . rw[if_pos hc] at h
    rcases List.mem_cons.1 h with rfl|h
    . exact⟨e,by simp,by simpa using hc,rfl⟩
    . obtain⟨x,hx,h1⟩:=E3 h;exact⟨x,by simp[hx],h1⟩
  . rw[if_neg hc] at h;obtain⟨x,hx,h1⟩:=E3 h;exact⟨x,by simp[hx],h1⟩
theorem Obs.get:∀{r:List Ent},Obs P md ops Q S R D F S' listed0 r->∀e∈r,D.contains e.d=true/\(e.g=true->Jlt md ops e.i=true)/\
 (∀y y' w w',e.V y w->y' e.d=y e.d->(∀x∈r,(∀listed,BF md ops listed->GH md ops listed e.i->listed.getD x.i false=true)->y' x.d=y x.d)->R w w'->e.V y' w')/\
 ∀y w,S w->(∀x∈r,(∀listed,BF md ops listed->GH md ops listed e.i->listed.getD x.i false=true)->x.V y w)->
  if e.g=true then ∃o v,ops[e.i]?=some o/\o.dst=some e.d/\YieldsIf P ops S' o v (F y)/\e.V (ups y e.d v) w
  else wpOp P ops Q e.i (fun a' w'=>∃v,a'=(F y).put (Option.some e.d) v/\R w w'/\S w'/\e.V (ups y e.d v) w') (F y) w
 |[],_,_,hz=>by cases hz
 |e::r,h,z,hz=>by
  obtain⟨⟨cl,hb,h1⟩,h2⟩:=h
  rcases List.mem_cons.1 hz with rfl|hz
  . obtain⟨hd,_,he,_⟩:=Wb h1;have hL:∀x:Ent,x.i∈cl->∀listed,BF md ops listed->GH md ops listed z.i->listed.getD x.i false=true:=fun x hc listed hC hL=>GJ hC cl [_] (fun k hk=>by rw[List.mem_singleton.1 hk];exact hL) he _ hc;refine⟨hd,fun hg=>?_,fun y y' w w' hV hd hx hR=>hb.1 y y' w w' hV (fun t ht=>?_) hR,fun y w hS hf=>hb.2 y w hS (Ja3 fun x hx hc=>hf x (by simp[hx]) (hL x hc))⟩
    . simp only[Yn,Bool.and_eq_true,hg,Bool.not_true,Bool.false_or] at h1;exact h1.1
    . rcases List.mem_cons.1 ht with rfl|ht
      . exact hd
      . obtain⟨x,ha,hh,rfl⟩:=E3 ht;exact hx x (by simp[ha]) (hL x hh)
  . obtain⟨a,a',b,c⟩:=h2.get z hz;exact⟨a,a',fun y y' w w' hV hd hx hR=>b y y' w w' hV hd (fun x ha=>hx x (by simp[ha])) hR,fun y w hS hf=>c y w hS (fun x hx hc=>hf x (by simp[hx]) hc)⟩
theorem Jhe{oi:Oper}(hd:ops[i]?=some oi)(hc:BF md ops listed)(hL:GH md ops listed i)(h:Jlt md ops i=true):
 ∀j oj,ops[j]?=some oj->j≠i->listed.getD j true=false->(∀e∈oj.after,Region.binds md e=true->e.on≠i)->oi.apart ops oj=true:=by
 intro j oj hj ha hf hg;simp only[Jlt,hd,Option.map_some,Option.getD_some,List.all_eq_true,List.mem_range,Bool.or_eq_true,beq_iff_eq] at h
 rcases h j (Array.getElem?_eq_some_iff.1 hj).1 with h|h|h|h
 . exact absurd h ha
 . rcases Ms hc ops.size [i] (fun k hk=>by rw[List.mem_singleton.1 hk];exact hL) j (by simpa using h) with h1|h1
   . exact absurd (List.mem_singleton.1 h1) ha
   . rw[(Uj hf).2] at h1;cases h1
 . exfalso
   unfold XP at h
   simp only[hj,Option.map_some,Option.getD_some,List.any_eq_true,Bool.and_eq_true,beq_iff_eq] at h;obtain⟨e,he,hb,hh⟩:=h;exact hg e (by simpa using he) hb hh
 . simpa[hj] using h
theorem Apt.dst:∀{r:List Ent},Apt r->∀x∈r,∀z∈r,x.i≠z.i->x.d≠z.d
 |[],_,_,h,_,_=>by cases h
 |e::r,ha,x,hx',z,hz=>by
  intro h
  rcases List.mem_cons.1 hx' with rfl|hx
  . rcases List.mem_cons.1 hz with rfl|hz
    . exact absurd rfl h
    . exact Ne.symm (ha.1 z hz).2
  . rcases List.mem_cons.1 hz with rfl|hz
    . exact(ha.1 x hx).2
    . exact ha.2.dst x hx z hz h
theorem Apt.eq:∀{r:List Ent},Apt r->∀x∈r,∀z∈r,x.i=z.i->x=z
 |[],_,_,h,_,_=>by cases h
 |e::r,ha,x,hx',z,hz=>by
  intro h
  rcases List.mem_cons.1 hx' with rfl|hx
  . rcases List.mem_cons.1 hz with rfl|hz
    . rfl
    . exact absurd h.symm (ha.1 z hz).1
  . rcases List.mem_cons.1 hz with rfl|hz
    . exact absurd h (ha.1 x hx).1
    . exact ha.2.eq x hx z hz h
def TE(md:Region.Mode)(ops:Array Oper)(listed:Array Bool)(r:List Ent):Bool:=
 (List.range ops.size).all fun j=>listed.getD j true||(r.any (fun e=>e.i==j)||r.all fun e=>e.g||(e.i != j&&(clo md ops ops.size [j]).contains e.i))
theorem Ja5{full:List Ent}{fF:Nat}(hp:∀y d v,D.contains d=true->(F y).put (some d) v=F (ups y d v))(hR:∀w,R w w)(hC:∀w,S w->S' w)(ht:Region.noSelect ops=true)(hQ:∀c a d v w,Q (.panic c) (a.put (some d) v) w->Q (.panic c) a w)(hu:listed0.size=ops.size)(hh:Obs P md ops Q S R D F S' listed0 full)(hq:TE md ops listed0 full=true)(fin:∀y w,S w->LU y w full->wpAnyH P md ops Q S' fF (FG listed0 full) (F y) w):
 ∀(n:Nat) (listed:Array Bool) (y:Nat->Value) (w:V6),Xd listed full=n->BF md ops listed->listed.size=listed0.size->(∀j,listed0.getD j false=true->listed.getD j false=true)->
  (∀j,listed.getD j false=true->listed0.getD j false=true\/∃e∈full,e.i=j)->S w->(∀e∈full,listed.getD e.i false=true->e.V y w)->wpAnyH P md ops Q S' (fF+n) listed (F y) w
 |0,listed,y,w,hn,hc,hs,hm,hD,hS,hf=>by
  have hF:=CZ hn
  have hI:∀e∈full,listed.getD e.i false=true:=fun e he=>by
   rw[<-P0 (by rw[hs];exact(Uj (hh.lt e he)).1)];exact hF e he
  have he:listed=FG listed0 full:=by
   apply Array.ext
   . rw[hs,N4]
   . intro j h1 h2
     have ha:listed[j]=listed.getD j false:=by simp[h1]
     have hb:(FG listed0 full)[j]=(FG listed0 full).getD j false:=by simp[h2]
     rw[ha,hb,Bool.eq_iff_iff,TD]
     constructor
     . intro h
       rcases hD j h with h|⟨e,he,h⟩
       . exact .inl h
       . exact .inr ⟨by rw[<-hs];exact h1,e,he,h⟩
     . rintro(h|⟨_,e,he,rfl⟩)
       . exact hm j h
       . exact hI e he
  rw[he];exact fin y w hS (Ja4 fun e he=>hf e he (hI e he))
 |n+1,listed,y,w,hn,hc,hs,hm,hD,hS,hf=>by
  have hdL:∀i∈Region.ready md ops listed,GH md ops listed i:=fun i hi=>by
   obtain⟨_,o,ho,hv⟩:=mem_ready.1 hi;exact E2 (fun o' ho'=>by rw[ho] at ho';cases ho';exact hv)
  have next:∀e∈full,e.i∈Region.ready md ops listed->∀v w',R w w'->S w'->e.V (ups y e.d v) w'->wpAnyH P md ops Q S' (fF+n) (listed.setIfInBounds e.i true) (F (ups y e.d v)) w':=by
   intro e he hi v w' hR' hS' hV;have hw:=(mem_ready.1 hi).1;refine Ja5 hp hR hC ht hQ hu hh hq fin n _ (ups y e.d v) w' ?_ (hc.set hi) (by simpa using hs) (fun j hj=>getD_set_true (hm j hj)) (fun j hj=>?_) hS' (fun x hx hl=>?_)
   . have:=NI hh.apt ⟨e,he,rfl⟩ hw;omega
   . by_cases h:e.i=j
     . exact .inr ⟨e,he,h⟩
     . rw[getD_set_ne false h] at hj;exact hD j hj
   . by_cases h:e.i=x.i
     . have:=hh.apt.eq x hx e he h.symm;subst this;exact hV
     . rw[getD_set_ne false h] at hl;have hJ:∀z∈full,listed.getD z.i false=true->ups y e.d v z.d=y z.d:=fun z hz hA=>if_neg (hh.apt.dst z hz e he (fun h'=>by rw[h',(Uj hw).2] at hA;cases hA));exact(hh.get x hx).2.2.1 _ _ _ _ (hf x hx hl) (hJ x hx hl) (fun z hz hA=>hJ z hz (hA listed hc (E2 fun o' ho'=>hc x.i o' hl ho'))) hR'
  by_cases hE:∃e∈full,e.g=true/\e.i∈Region.ready md ops listed
  . obtain⟨e,he,hg,hi⟩:=hE;obtain⟨hd,hN,_,hG⟩:=hh.get e he;have h1:=hG y w hS (fun x hx hr=>hf x hx (hr listed hc (hdL _ hi)));rw[if_pos hg] at h1;obtain⟨o,v,ho,hK,hy,hV⟩:=h1;refine wpAnyH_first ho (Region.noSelect_spec ht) (fun c a w h=>hQ c a e.d v w (by rw[hK] at h;exact h)) (fF+n) listed (F y) w (Jhe ho hc (hdL _ hi) (hN hg)) hi hy (hC w hS) ?_;rw[hK,hp y e.d v hd];exact next e he hi v w (hR w) hS hV
  . obtain⟨e0,hL,hB⟩:=hh.any (listed:=listed) hm hs (by omega);refine(show _/\_ from⟨fun h=>(by rw[h] at hB;cases hB),fun i hi=>?_⟩);obtain⟨hw,o,ho,hv⟩:=mem_ready.1 hi
    have hH:∃e∈full,e.i=i:=by
     have hM:i<ops.size:=(Array.getElem?_eq_some_iff.1 ho).1;simp only[TE,List.all_eq_true,List.mem_range,Bool.or_eq_true,List.any_eq_true,beq_iff_eq,Bool.and_eq_true,bne_iff_ne] at hq
     rcases hq i hM with h|h|h
     . have h0:=hm i (by rw[<-P0 (by rw[hu];exact hM)];exact h);rw[(Uj hw).2] at h0
       cases h0
     . exact h
     . exfalso
       rcases h e0 hL with hg|⟨ha,hb⟩
       . exact hE ⟨e0,hL,hg,hB⟩
       . rcases Ms hc ops.size [i] (fun k hk=>by rw[List.mem_singleton.1 hk];exact hdL i hi) e0.i (by simpa using hb) with h1|h1
         . exact absurd (List.mem_singleton.1 h1) ha
         . rw[(Uj (mem_ready.1 hB).1).2] at h1;cases h1
    obtain⟨e,he,rfl⟩:=hH;obtain⟨hd,_,_,hG⟩:=hh.get e he;have h1:=hG y w hS (fun x hx hr=>hf x hx (hr listed hc (hdL _ hi)));rw[if_neg (fun hg=>hE ⟨e,he,hg,hi⟩)] at h1;refine wpOp_mono ?_ h1;rintro a' w' ⟨v,rfl,hR',hS',hV⟩;rw[hp y e.d v hd];exact⟨hC w' hS',next e he hi v w' hR' hS' hV⟩
def E4(md:Region.Mode)(ops:Array Oper)(listed:Array Bool):Bool:=
 listed.size==ops.size&&(List.range ops.size).all fun i=>!listed.getD i false||((ops[i]?).map fun o=>o.after.toList.all fun e=>!Region.binds md e||listed.getD e.on false).getD true
theorem P1(h:E4 md ops listed=true):listed.size=ops.size/\BF md ops listed:=by
 simp only[E4,Bool.and_eq_true,beq_iff_eq,List.all_eq_true,List.mem_range] at h;refine⟨h.1,fun i o hi ho e he hb=>?_⟩;have:=h.2 i (Array.getElem?_eq_some_iff.1 ho).1;simp only[hi,ho,Option.map_some,Option.getD_some,Bool.not_true,Bool.false_or,List.all_eq_true] at this
 simpa[hb] using this e (by simpa using he)
def Ch(P:Program)(md:Region.Mode)(ops:Array Oper)(Q:Exit->Act->World->Prop)(S:V6->Prop)(R:V6->World->Prop)(D:List Nat)(F:(Nat->Value)->Act)(S':V6->Prop)(listed0:Array Bool)(fuel:Nat)(r:List Ent):Prop:=
 ∃full fF,fuel=fF+Xd listed0 full/\(Obs P md ops Q S R D F S' listed0 r->Obs P md ops Q S R D F S' listed0 full)/\TE md ops listed0 full=true/\
  ∀y w,S w->LU y w full->wpAnyH P md ops Q S' fF (FG listed0 full) (F y) w
theorem Ch.start{ds:List Deferred}(hS:S w)(h:Ch P md ops Q S R D F S' listed0 fuel [])(hR:∀w,R w w)(hg:∀w,S w->S' w)(hA:∀y,⟨(CO D y 0 l0).toArray,ds⟩=F y)(hc:E4 md ops listed0=true)(hb:Region.noSelect ops=true)(hQ:∀c a d v w,Q (.panic c) (a.put (some d) v) w->Q (.panic c) a w):wpAnyH P md ops Q S' fuel listed0 ⟨l0.toArray,ds⟩ w:=by
 obtain⟨full,fF,rfl,h1,h2,h3⟩:=h;obtain⟨h4,h5⟩:=P1 hc;have ha:=h1 trivial
 have hf:∀y d v,D.contains d=true->(F y).put (some d) v=F (ups y d v):=fun y d v hd=>by
  rw[<-hA,<-hA,<-Jhd D y l0 d v hd];rfl
 have:=Ja5 hf hR hg hb hQ h4 ha h2 h3 (Xd listed0 full) listed0 (fun t=>l0.getD t undef) w rfl h5 rfl (fun _ h=>h) (fun _ h=>.inl h) hS (fun e he hl=>by
  have:=(Uj (ha.lt e he)).2;rw[this] at hl;cases hl)
 rw[<-hA,NG D l0 0 _ (fun t _=>by rw[Nat.zero_add])] at this;exact this
theorem Ch.op{r:List Ent}(i d:Nat)(cl:List Nat)(V:(Nat->Value)->World->Prop)(h:∀y w,S w->AH cl y w r->∀K:Act->World->Prop,(∀v w',R w w'->S w'->V (ups y d v) w'->K ((F y).put (some d) v) w')->
  if Region.wanted o (yielded ops (F y).tmps)=true then Oper.wp P o (F y) w K Q else K ((F y).put o.dst undef) w)(k:Ch P md ops Q S R D F S' listed0 fuel (⟨i,d,false,V⟩::r))(ha:∀y y' w w',V y w->(∀t∈d::I5 cl r,y' t=y t)->R w w'->V y' w')(ho:ops[i]?=some o)(hc:Yn md ops D listed0 cl i d false r=true):
 Ch P md ops Q S R D F S' listed0 fuel r:=by
 obtain⟨full,fF,h0,h1,h2,h3⟩:=k;refine⟨full,fF,h0,fun hr=>h1 ⟨⟨cl,⟨ha,fun y w hS hf=>?_⟩,hc⟩,hr⟩,h2,h3⟩;rw[if_neg (by simp)];exact wpOp_step ho (fun K' hK=>h y w hS hf K' (fun v w' hR hS hV=>hK _ _ ⟨v,rfl,hR,hS,hV⟩))
theorem Ch.eag{r:List Ent}(i d:Nat)(cl:List Nat)(V:(Nat->Value)->World->Prop)(h:∀y w,S w->AH cl y w r->∃v,YieldsIf P ops S' o v (F y)/\V (ups y d v) w)(k:Ch P md ops Q S R D F S' listed0 fuel (⟨i,d,true,V⟩::r))(ha:∀y y' w w',V y w->(∀t∈d::I5 cl r,y' t=y t)->R w w'->V y' w')(ho:ops[i]?=some o)(hc:Yn md ops D listed0 cl i d true r=true):
 Ch P md ops Q S R D F S' listed0 fuel r:=by
 obtain⟨full,fF,h0,h1,h2,h3⟩:=k;refine⟨full,fF,h0,fun hr=>h1 ⟨⟨cl,⟨ha,fun y w hS hf=>?_⟩,hc⟩,hr⟩,h2,h3⟩;rw[if_pos rfl];obtain⟨v,h4,h5⟩:=h y w hS hf;obtain⟨_,_,_,o',ho',hd,_⟩:=Wb hc;rw[ho] at ho'
 cases ho'
 exact⟨o,v,ho,hd,h4,h5⟩
def Jrh(n:Nat)(u:List Nat):Array Bool:=((List.range n).map fun i=>!u.contains i).toArray
end
section
variable {P : Program} {md : Region.Mode} {ops : Array Oper} {Q : Exit -> Act -> World -> Prop} {w0 : World} {D : List Nat} {F : (Nat -> Value) -> Act} {S' : World -> Prop} {listed0 : Array Bool} {fuel : Nat} {r : List Ent}
abbrev BR(u u':V6):Prop:=Bw u u'
abbrev Cb(P:Program)(md:Region.Mode)(ops:Array Oper)(Q:Exit->Act->World->Prop)(w0:V6)(D:List Nat)(F:(Nat->Value)->Act)(S':V6->Prop)(listed0:Array Bool)(fuel:Nat)(r:List Ent):Prop:=
 Ch P md ops Q (fun u=>Bw w0 u) BR D F S' listed0 fuel r
theorem Cs{ds:List Deferred}(D:List Nat)(h:Cb P .any ops Q w D F (fun u=>Bw w u) (Array.replicate ops.size false) ops.size [])(hA:∀y,⟨(CO D y 0 l0).toArray,ds⟩=F y:=by intro y;simp only[CO,List.contains_cons,List.contains_nil,Nat.reduceAdd,Nat.reduceBEq,Bool.or_false,Bool.or_true,Bool.true_or,Bool.false_or,if_true,if_false,Bool.false_eq_true];rfl)(hQ:∀c a d v w,Q (.panic c) (a.put (some d) v) w->Q (.panic c) a w:=by exact fun _ _ _ _ _ h=>h)(hm:P.follows .mixedOrders=true:=by kernel_rfl)(hc:(E4 .any ops (Array.replicate ops.size false)&&Region.noSelect ops)=true:=by kernel_rfl):(Code.region id ops true).wp P Q ⟨l0.toArray,ds⟩ w:=
 wp_region_held hm (Ch.start (Vb) h (fun _=>Below.refl _ _) (fun _ h=>h) hA (Bool.and_eq_true_iff.1 hc).1 (Bool.and_eq_true_iff.1 hc).2 hQ)
theorem Ct{ds:List Deferred}(D:List Nat)(h:Cb P .any ops Q w D F (fun _=>True) (Array.replicate ops.size false) ops.size [])(hA:∀y,⟨(CO D y 0 l0).toArray,ds⟩=F y:=by intro y;simp only[CO,List.contains_cons,List.contains_nil,Nat.reduceAdd,Nat.reduceBEq,Bool.or_false,Bool.or_true,Bool.true_or,Bool.false_or,if_true,if_false,Bool.false_eq_true];rfl)(hQ:∀c a d v w,Q (.panic c) (a.put (some d) v) w->Q (.panic c) a w:=by exact fun _ _ _ _ _ h=>h)(hm:P.follows .mixedOrders=true:=by kernel_rfl)(hc:(E4 .any ops (Array.replicate ops.size false)&&Region.noSelect ops)=true:=by kernel_rfl):(Code.region id ops true).wp P Q ⟨l0.toArray,ds⟩ w:=
 wp_region_held hm (Ch.start (Vb) h (fun _=>Below.refl _ _) (fun _ _=>trivial) hA (Bool.and_eq_true_iff.1 hc).1 (Bool.and_eq_true_iff.1 hc).2 hQ)
theorem Co(i d:Nat)(cl:List Nat)(V:(Nat->Value)->World->Prop)(h:∀y w,Bw w0 w->AH cl y w r->∀K:Act->World->Prop,Shut (∀v w',Bw w w'->V (ups y d v) w'->K ((F y).put (some d) v) w')->
  if Region.wanted o (yielded ops (F y).tmps)=true then Oper.wp P o (F y) w K Q else K ((F y).put o.dst undef) w)(k:Cb P md ops Q w0 D F S' listed0 fuel (⟨i,d,false,V⟩::r))(hd:∀y y' w w',V y w->(∀t∈d::I5 cl r,y' t=y t)->BR w w'->V y' w':=by exact fun _ _ _ _ h ha _=>(ha _ (List.mem_cons_self ..)).trans h)(ho:ops[i]?=some o:=by rfl)(hc:Yn md ops D listed0 cl i d false r=true:=by kernel_rfl):
 Cb P md ops Q w0 D F S' listed0 fuel r:=
 Ch.op i d cl V (fun y w hS hf K hK=>h y w hS hf K (fun v w' hb hV=>hK v w' hb (hS.trans (hb.mono hS.size)) hV)) k hd ho hc
theorem Cv(i d:Nat)(cl:List Nat)(V:(Nat->Value)->World->Prop)(h:∀y w,Bw w0 w->AH cl y w r->∃v w',(execOp (F y).eval o).run P w=.ok (.value v) w'/\Bw w w'/\V (ups y d v) w')(k:Cb P md ops Q w0 D F S' listed0 fuel (⟨i,d,false,V⟩::r))(hb:∀y y' w w',V y w->(∀t∈d::I5 cl r,y' t=y t)->BR w w'->V y' w':=by exact fun _ _ _ _ h ha _=>(ha _ (List.mem_cons_self ..)).trans h)(ho:ops[i]?=some o:=by rfl)(hc:Yn md ops D listed0 cl i d false r=true:=by kernel_rfl)(hw:∀y w,AH cl y w r->Region.wanted o (yielded ops (F y).tmps)=true:=by intro y w hF;rfl):Cb P md ops Q w0 D F S' listed0 fuel r:=
 Co i d cl V (fun y w hS hF K hK=>by
  obtain⟨v,w',h1,h2,h3⟩:=h y w hS hF;rw[if_pos (hw y w hF)]
  unfold Oper.wp
  rw[h1];obtain⟨_,_,_,o',ho',hd,_⟩:=Wb hc;rw[ho] at ho'
  cases ho'
  rw[Oper.upon_value,hd]
  exact hK v w' h2 h3) k hb ho hc
theorem Cp(i d:Nat)(cl:List Nat)(k:Cb P md ops Q w0 D F S' listed0 fuel (⟨i,d,true,fun y _=>y d=v⟩::r))(ho:ops[i]?=some o:=by rfl)(hc:Yn md ops D listed0 cl i d true r=true:=by kernel_rfl)(hw:∀y w,AH cl y w r->Region.wanted o (yielded ops (F y).tmps)=true:=by intro y w hF;first|rfl|exact Zg (congrArg some hF.1)|exact Zg (congrArg some hF.2.1)|exact Zg (congrArg some hF.2.2.1))(hy:∀y w,AH cl y w r->∀u,(execOp (F y).eval o).run P u=.ok (.value v) u:=by intro y w hF u;simp only[AH,List.contains_cons,List.contains_nil,Nat.reduceBEq,Bool.or_false,Bool.or_true,if_true,if_false,Bool.false_eq_true] at hF;go_simp;(try first|with_reducible rfl|rfl)):
 Cb P md ops Q w0 D F S' listed0 fuel r:=
 Ch.eag i d cl _ (fun y w _ hF=>⟨v,.inl ⟨hw y w hF,fun u _=>hy y w hF u⟩,if_pos rfl⟩) k (fun _ _ _ _ h ha _=>(ha _ (List.mem_cons_self ..)).trans h) ho hc
theorem Cz(i d:Nat)(cl:List Nat)(k:Cb P md ops Q w0 D F S' listed0 fuel (⟨i,d,true,fun y _=>y d=undef⟩::r))(ho:ops[i]?=some o:=by rfl)(hc:Yn md ops D listed0 cl i d true r=true:=by kernel_rfl)(hw:∀y w,AH cl y w r->Region.wanted o (yielded ops (F y).tmps)=false:=by intro y w hF;first|exact Zh (congrArg some hF.1)|exact Zh (congrArg some hF.2.1)|exact Zh (congrArg some hF.2.2.1)|(simp only[AH,List.contains_cons,List.contains_nil,Nat.reduceBEq,Bool.or_false,Bool.or_true,if_true,if_false,Bool.false_eq_true] at hF;simp[Region.wanted,yielded,hF])):
 Cb P md ops Q w0 D F S' listed0 fuel r:=
 Ch.eag i d cl _ (fun y w _ hF=>⟨undef,.inr ⟨hw y w hF,rfl⟩,if_pos rfl⟩) k (fun _ _ _ _ h ha _=>(ha _ (List.mem_cons_self ..)).trans h) ho hc
theorem Cq{G:V6->Prop}(g:∀w,S' w->G w)(i d:Nat)(cl:List Nat)(k:Cb P md ops Q w0 D F S' listed0 fuel (⟨i,d,true,fun y _=>y d=v⟩::r))(ho:ops[i]?=some o:=by rfl)(hc:Yn md ops D listed0 cl i d true r=true:=by kernel_rfl)(hw:∀y w,AH cl y w r->Region.wanted o (yielded ops (F y).tmps)=true:=by intro y w hF;first|rfl|exact Zg (congrArg some hF.1)|exact Zg (congrArg some hF.2.1)|exact Zg (congrArg some hF.2.2.1))(hy:∀y w,AH cl y w r->∀u,G u->(execOp (F y).eval o).run P u=.ok (.value v) u:=by intro y w hF u hG;simp only[AH,List.contains_cons,List.contains_nil,Nat.reduceBEq,Bool.or_false,Bool.or_true,if_true,if_false,Bool.false_eq_true] at hF;go_simp;(try first|with_reducible rfl|rfl)):
 Cb P md ops Q w0 D F S' listed0 fuel r:=
 Ch.eag i d cl _ (fun y w _ hF=>⟨v,.inl ⟨hw y w hF,fun u hu=>hy y w hF u (g u hu)⟩,if_pos rfl⟩) k (fun _ _ _ _ h ha _=>(ha _ (List.mem_cons_self ..)).trans h) ho hc
theorem Cl(i d:Nat)(cl:List Nat)(g:∀y w,AH cl y w r->∀u,S' u->u.rangeAt b off cs/\(F y).eval x=Ve b off)(hu:P.underlying ty=some e)(hi:(P.info? ty).map (·.size)=some cs.length)(k:Cb P md ops Q w0 D F S' listed0 fuel (⟨i,d,true,fun y _=>y d=.agg cs.toArray⟩::r))(ho:ops[i]?=some o:=by rfl)(hl:o.op=.load ty x:=by rfl)(hd:e.isRow=true:=by rfl)(hc:Yn md ops D listed0 cl i d true r=true:=by kernel_rfl)(hw:∀y w,AH cl y w r->Region.wanted o (yielded ops (F y).tmps)=true:=by intro y w hF;first|rfl|exact Zg (congrArg some hF.1)|exact Zg (congrArg some hF.2.1)|exact Zg (congrArg some hF.2.2.1))(hs:∃w:V6,S' w:=by exact⟨_,Below.refl _ _⟩):Cb P md ops Q w0 D F S' listed0 fuel r:=
 Ch.eag i d cl _ (fun y w _ hF=>⟨.agg cs.toArray,yieldsIf_load_mid (hw y w hF) ty x hl b off (by obtain⟨u,hu⟩:=hs;exact(g y w hF u hu).2) cs e (fun u hu=>(g y w hF u hu).1) hu hd hi,if_pos rfl⟩) k (fun _ _ _ _ h ha _=>(ha _ (List.mem_cons_self ..)).trans h) ho hc
theorem Cr(i d:Nat)(cl:List Nat)(g:∀y w,Bw w0 w->AH cl y w r->w.rangeAt b off cs/\(F y).eval x=Ve b off)(hu:P.underlying ty=some e)(hi:(P.info? ty).map (·.size)=some cs.length)(k:Cb P md ops Q w0 D F S' listed0 fuel (⟨i,d,false,fun y _=>y d=.agg cs.toArray⟩::r))(ho:ops[i]?=some o:=by rfl)(hl:o.op=.load ty x:=by rfl)(hd:e.isRow=true:=by rfl)(hc:Yn md ops D listed0 cl i d false r=true:=by kernel_rfl)(hw:∀y w,AH cl y w r->Region.wanted o (yielded ops (F y).tmps)=true:=by intro y w hF;rfl):Cb P md ops Q w0 D F S' listed0 fuel r:=
 Cv i d cl _ (fun y w hS hF=>⟨.agg cs.toArray,w,(by
  rcases yieldsIf_load_mid (S:=fun u=>u=w) (ops:=ops) (hw y w hF) ty x hl b off (g y w hS hF).2 cs e (fun u hu=>by rw[hu];exact(g y w hS hF).1) hu hd hi with⟨_,h⟩|⟨h,_⟩
  . exact h w rfl
  . rw[hw y w hF] at h;cases h),Below.refl _ _,if_pos rfl⟩) k (fun _ _ _ _ h ha _=>(ha _ (List.mem_cons_self ..)).trans h) ho hc hw
theorem Cc(i d:Nat)(cl:List Nat)(h:∀y w,Bw w0 w->AH cl y w r->Calls P f args w fun e w'=>e=.returned v/\Bw w w')(k:Cb P md ops Q w0 D F S' listed0 fuel (⟨i,d,false,fun y _=>y d=v⟩::r))(ho:ops[i]?=some o:=by rfl)(hc:Yn md ops D listed0 cl i d false r=true:=by kernel_rfl)(hw:∀y w,AH cl y w r->Region.wanted o (yielded ops (F y).tmps)=true:=by intro y w hF;first|rfl|exact Zg (congrArg some hF.1)|exact Zg (congrArg some hF.2.1)|exact Zg (congrArg some hF.2.2.1))(hy:∀y w,Bw w0 w->AH cl y w r->(execOp (F y).eval o).run P w=.ok (.enter f args) w:=by intro y w hS hF;clear hS;simp only[AH,List.contains_cons,List.contains_nil,Nat.reduceBEq,Bool.or_false,Bool.or_true,if_true,if_false,Bool.false_eq_true] at hF;go_simp;(try first|with_reducible rfl|rfl)):
 Cb P md ops Q w0 D F S' listed0 fuel r:=
 Co i d cl _ (fun y w hS hF K hK=>by
  rw[if_pos (hw y w hF)]
  unfold Oper.wp
  rw[hy y w hS hF,Oper.upon_enter];obtain⟨_,_,_,o',ho',hd,_⟩:=Wb hc;rw[ho] at ho'
  cases ho'
  refine Sb (h y w hS hF) fun w' hb=>?_
  show K ((F y).put o.dst v) w'
  rw[hd]
  exact hK v w' hb (if_pos rfl)) k (fun _ _ _ _ h ha _=>(ha _ (List.mem_cons_self ..)).trans h) ho hc
theorem Cd(i d:Nat)(cl:List Nat)(V:Value->World->Prop)(h:∀y w,Bw w0 w->AH cl y w r->Calls P f args w fun e w'=>∃v,e=.returned v/\V v w'/\Bw w w')(he:∀v w w',V v w->Bw w w'->V v w')(k:Cb P md ops Q w0 D F S' listed0 fuel (⟨i,d,false,fun y w=>V (y d) w⟩::r))(ho:ops[i]?=some o:=by rfl)(hc:Yn md ops D listed0 cl i d false r=true:=by kernel_rfl)(hw:∀y w,AH cl y w r->Region.wanted o (yielded ops (F y).tmps)=true:=by intro y w hF;rfl)(hy:∀y w,Bw w0 w->AH cl y w r->(execOp (F y).eval o).run P w=.ok (.enter f args) w:=by intro y w hS hF;clear hS;simp only[AH,List.contains_cons,List.contains_nil,Nat.reduceBEq,Bool.or_false,Bool.or_true,if_true,if_false,Bool.false_eq_true] at hF;go_simp;(try first|with_reducible rfl|rfl)):
 Cb P md ops Q w0 D F S' listed0 fuel r:=
 Co i d cl _ (fun y w hS hF K hK=>by
  have h2:=h y w hS hF;rw[if_pos (hw y w hF)]
  unfold Oper.wp
  rw[hy y w hS hF,Oper.upon_enter];obtain⟨_,_,_,o',ho',hd,_⟩:=Wb hc;rw[ho] at ho'
  cases ho'
  refine h2.mono ?_;rintro e w' ⟨v,rfl,hV,hb⟩
  show K ((F y).put o.dst v) w'
  rw[hd]
  exact hK v w' hb (by rw[show ups y d v d=v from if_pos rfl];exact hV)) k (fun y y' w w' h ha hb=>by rw[ha d (List.mem_cons_self ..)];exact he _ _ _ h hb) ho hc
theorem Ca(i d:Nat)(k:Cb P md ops Q w0 D F S' listed0 fuel (⟨i,d,false,fun y w=>∃X,y d=Ve X 0/\w.heap[X]?=some (.cells z.toArray t (0,0))/\w0.heap.size<=X⟩::r))(ho:ops[i]?=some o:=by rfl)(hc:Yn md ops D listed0 [] i d false r=true:=by kernel_rfl)(hw:∀y,Region.wanted o (yielded ops (F y).tmps)=true:=by intro y;rfl)(hy:∀y w,(execOp (F y).eval o).run P w=.ok (.value (Ve w.heap.size 0)) (w.alloc (.cells z.toArray t)):=by intro y w;go_simp;(try first|with_reducible rfl|rfl)):
 Cb P md ops Q w0 D F S' listed0 fuel r:=
 Cv i d [] _ (fun y w hS _=>⟨_,_,hy y w,(Below.refl _ _).alloc (Nat.le_refl _) _,w.heap.size,if_pos rfl,World.alloc_heap_new w _,hS.size⟩) k
  (fun _ _ _ _ ⟨X,h1,h2,h3⟩ ha hb=>⟨X,(ha _ (List.mem_cons_self ..)).trans h1,(hb.block X (Array.getElem?_eq_some_iff.1 h2).1).trans h2,h3⟩) ho hc (fun y _ _=>hw y)
theorem Cu(g:(Nat->Value)->Value)(i d:Nat)(cl:List Nat)(k:Cb P md ops Q w0 D F S' listed0 fuel (⟨i,d,true,fun y _=>y d=g y⟩::r))(hg:∀y y',(∀t∈I5 cl r,y' t=y t)->g y'=g y:=by intro y y' h;simp only[I5,List.contains_cons,List.contains_nil,Nat.reduceBEq,Bool.or_false,Bool.or_true,Bool.true_or,if_true,if_false,Bool.false_eq_true,List.mem_cons,List.not_mem_nil,or_false,forall_eq_or_imp,forall_eq] at h;simp only[h])(ho:ops[i]?=some o:=by rfl)(hc:Yn md ops D listed0 cl i d true r=true:=by kernel_rfl)(hw:∀y w,AH cl y w r->Region.wanted o (yielded ops (F y).tmps)=true:=by intro y w hF;rfl)(hy:∀y w,AH cl y w r->∀u,(execOp (F y).eval o).run P u=.ok (.value (g y)) u):Cb P md ops Q w0 D F S' listed0 fuel r:=
 Ch.eag i d cl _ (fun y w _ hF=>⟨g y,.inl ⟨hw y w hF,fun u _=>hy y w hF u⟩,by
  rw[show ups y d (g y) d=g y from if_pos rfl,hg y (ups y d (g y)) (fun t ht=>if_neg (fun h=>by
   obtain⟨x,hx,_,hb⟩:=E3 ht;simp only[Yn,Bool.and_eq_true,List.all_eq_true,bne_iff_ne] at hc
   exact(hc.2.2.2.1 x hx).2 (hb.trans h)))]⟩) k
  (fun y y' _ _ h ha _=>by
   show y' d=g y'
   rw[hg y y' (fun t ht=>ha t (List.mem_cons_of_mem _ ht)),ha d (List.mem_cons_self ..)];exact h) ho hc
def tg(v:Value)(k:Nat):Value:=match v with|.tuple a=>a.getD k undef|v=>v
theorem Yc{vs:Array Value}{V:Ending}(h:Calls P f vs w fun e w'=>e=V/\w'=w):Calls P f vs w fun e w'=>e=V/\Bw w w':=h.mono (by rintro e w' ⟨rfl,rfl⟩;exact⟨rfl,Below.refl _ _⟩)
theorem Ce(k:∀y w,Bw w0 w->LU y w r->Q .normal (F' y) w)(hA:∀y w,LU y w r->F y=F' y:=by intro y w hF;simp only[LU] at hF;(try simp only[hF]);rfl)(hl:Region.ready md ops (FG listed0 r)=[]:=by kernel_rfl)(hf:fuel=Xd listed0 r:=by kernel_rfl)(hc:TE md ops listed0 r=true:=by kernel_rfl):Cb P md ops Q w0 D F S' listed0 fuel r:=
 ⟨r,0,by rw[Nat.zero_add];exact hf,id,hc,fun y w hS ha=>⟨hl,by rw[hA y w ha];exact k y w hS ha⟩⟩
theorem Cn(fF n:Nat)(u:List Nat)(k:∀y w,Bw w0 w->LU y w r->wpAnyH P md ops Q S' fF (Jrh n u) (F' y) w)(hA:∀y w,LU y w r->F y=F' y:=by intro y w hF;simp only[LU] at hF;(try simp only[hF]);rfl)(hl:FG listed0 r=Jrh n u:=by kernel_rfl)(hf:fuel=fF+Xd listed0 r:=by kernel_rfl)(hc:TE md ops listed0 r=true:=by kernel_rfl):Cb P md ops Q w0 D F S' listed0 fuel r:=
 ⟨r,fF,hf,id,hc,fun y w hS ha=>by rw[hl,hA y w ha];exact k y w hS ha⟩
end
section
variable {P : Program} {md : Region.Mode} {ops : Array Oper} {Q : Exit -> Act -> World -> Prop} {w0 : World} {D : List Nat} {F : (Nat -> Value) -> Act} {S' : World -> Prop} {listed0 : Array Bool} {fuel : Nat} {r : List Ent}
theorem Cbs(i d:Nat)(h:List Nat)(k:Cb P md ops Q w0 D F S' listed0 fuel (⟨i,d,false,fun y w=>∃X,y d=Vf X 0 n n/\w.heap[X]?=some (.cells z.toArray t (0,0))/\w0.heap.size<=X⟩::r))(ho:ops[i]?=some o:=by rfl)(hc:Yn md ops D listed0 h i d false r=true:=by kernel_rfl)(hw:∀y w,AH h y w r->Region.wanted o (yielded ops (F y).tmps)=true:=by intro y w hF;rfl)(hy:∀y w,AH h y w r->(execOp (F y).eval o).run P w=.ok (.value (Vf w.heap.size 0 n n)) (w.alloc (.cells z.toArray t)):=by intro y w hF;simp only[AH,List.contains_cons,List.contains_nil,Nat.reduceBEq,Bool.or_false,Bool.or_true,if_true,if_false,Bool.false_eq_true] at hF;go_simp;(try first|with_reducible rfl|rfl)):
 Cb P md ops Q w0 D F S' listed0 fuel r:=
 Cv i d h _ (fun y w hS hF=>⟨_,_,hy y w hF,(Below.refl _ _).alloc (Nat.le_refl _) _,w.heap.size,if_pos rfl,World.alloc_heap_new w _,hS.size⟩) k
  (fun _ _ _ _ ⟨X,h1,h2,h3⟩ ha hb=>⟨X,(ha _ (List.mem_cons_self ..)).trans h1,(hb.block X (Array.getElem?_eq_some_iff.1 h2).1).trans h2,h3⟩) ho hc hw
theorem Cg(i d j m:Nat)(h:∀X w,Bw w0 w->w.heap[X]?=some (.cells z.toArray t (0,0))->Calls P f #[Vf X 0 n n] w fun e w'=>e=.returned v/\Bw w w')(k:Cb P md ops Q w0 D F S' listed0 fuel (⟨i,d,false,fun y _=>y d=v⟩::r))(H:∀y w,AH [j] y w r->∃X,y m=Vf X 0 n n/\w.heap[X]?=some (.cells z.toArray t (0,0))/\w0.heap.size<=X:=by intro y w hF;exact hF.1)(ho:ops[i]?=some o:=by rfl)(hc:Yn md ops D listed0 [j] i d false r=true:=by kernel_rfl)(hw:∀y w,AH [j] y w r->Region.wanted o (yielded ops (F y).tmps)=true:=by intro y w hF;rfl)(hy:∀y w X,y m=Vf X 0 n n->(execOp (F y).eval o).run P w=.ok (.enter f #[Vf X 0 n n]) w:=by intro y w X hF;go_simp;(try first|with_reducible rfl|rfl)):
 Cb P md ops Q w0 D F S' listed0 fuel r:=
 Co i d [j] _ (fun y w hS hF K hK=>by
  obtain⟨X,e,Z,_⟩:=H y w hF;rw[if_pos (hw y w hF)]
  unfold Oper.wp
  rw[hy y w X e,Oper.upon_enter];obtain⟨_,_,_,G,ho',hd,_⟩:=Wb hc;rw[ho] at ho'
  cases ho'
  refine Sb (h X w hS Z) fun w' Y=>?_
  show K ((F y).put o.dst v) w'
  rw[hd]
  exact hK v w' Y (if_pos rfl)) k (fun _ _ _ _ h ha _=>(ha _ (List.mem_cons_self ..)).trans h) ho hc
end
end Go.Proofs.YtnepnnkdgejheaaGreatDoor
