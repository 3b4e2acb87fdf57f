
import Derived.Test.YtnfdfiholcelaaaGreatDoorJp01
set_option maxRecDepth 100000
set_option maxHeartbeats 20000000
namespace Go.Proofs.YtnfdfiholcelaaaGreatDoor
open Go.RowKit Plain Tryz
variable {a l z:List Int}{ba bz oa oz:Nat}{w w':World}
def Lst(w:World)(a:Option Addr)(l:List Int):Prop:=l=[]∨∃b off,a=some (Ad b off)∧∀k,k<l.length→Kc w b (off+k) (Vi (at0 l k))
theorem Lst.later{a:Option Addr}(h:Lst w a l)(hb:Bw w w'):Lst w' a l:=by
 rcases h with h|⟨b,off,h,hc⟩
 · exact .inl h
 · exact .inr ⟨b,off,h,fun k hk=>cell_later hb (hc k hk)⟩
theorem Lst.at{a:Option Addr}(h:Lst w a l)(hn:l≠[]):∃b off,a=some (Ad b off)∧∀k,k<l.length→Kc w b (off+k) (Vi (at0 l k)):=by
 rcases h with h|h
 · exact absurd h hn
 · exact h
theorem Wq{k:Nat}(h:k<l.length):l≠[]:=by intro e;subst e;simp at h
theorem worth_any(a:Option Addr)(cap:Nat)(l:List Int)(w:World)(hm:l.length≤9223372036854775807)(hc:Lst w a l):
 Calls prog 197 #[.slice a l.length cap] w (Re w (Vi (Zw l))):=by
 have HC:Hid (Lst w a l):=hc;clear hc
 go_enter func197,ntmps197
 go_wp2
 go_loop [3] (fun i=>∃k:Nat,k≤l.length∧i=Vi k∧Hid (Zw l=Zw (l.drop k))) (fun i=>l.length-(intOf i).toNat)
 case atStart=>exact⟨0,Nat.zero_le _,rfl,by show Zw l=Zw (l.drop 0);rw[List.drop_zero]⟩
 case round=>
  obtain⟨k,hk,rfl,hf⟩:=hrel
  by_cases hlt:k<l.length
  · obtain⟨b,off,rfl,hcs⟩:=HC.out.at (Wq hlt);have hcell:=hcs k hlt;clear hcs;have hs:=worth_step l k hlt;generalize at0 l k=z at hcell hs
    by_cases hz:Zu z=true
    · rw[if_pos hz] at hs;have HS:Hid (Zw l=Zw (l.drop (k+1))):=hf.out.trans hs;clear hs hf
      go_wp2_with (go_at_call 38;refine(Zjh _ _).mono ?_;rintro e w' ⟨rfl,rfl⟩)
      go_round
      case rel=>exact⟨k+1,by omega,by go_num,HS⟩
      case measure=>simp[intOf];omega
    · rw[if_neg hz] at hs;have HS:Hid (Zw l=1):=hf.out.trans hs
      have hz':Zu z=false:=by simpa using hz
      clear hs hf hz
      go_wp2_with (go_at_call 38;refine(Zjh _ _).mono ?_;rintro e w' ⟨rfl,rfl⟩);go_ret;exact⟨by rw[HS.out];rfl,rfl⟩
  · go_wp2;go_ret
    have:k=l.length:=by omega
    subst this;exact⟨by rw[hf.out,List.drop_length];rfl,rfl⟩
def Xj(l:List Int):Nat→Int
 |0=>-1
 |n+1=>if Zu (at0 l (l.length-(n+1))) then Xj l n else((l.length-(n+1):Nat):Int)
theorem beyond_neg(l:List Int):∀n,n≤l.length→(0≤Xj l n↔Zw (l.drop (l.length-n))=1)
 |0,_=>by simp[Xj,Zw]
 |n+1,h=>by
  have hs:=worth_step l (l.length-(n+1)) (by omega)
  have e:l.length-(n+1)+1=l.length-n:=by omega
  rw[e] at hs;rw[hs];simp only[Xj]
  split
  · rw[beyond_neg l n (by omega)]
  · simp
theorem index_any(a:Option Addr)(cap:Nat)(l:List Int)(w:World)(hm:l.length≤9223372036854775807)(hc:Lst w a l):
 Calls prog 283 #[.slice a l.length cap,.func (.func 266) #[] #[]] w (Re w (Vi (Xj l l.length))):=by
 have HC:Hid (Lst w a l):=hc;clear hc
 go_enter func283,ntmps283
 go_wp2
 go_loop [8] (fun i=>∃k:Nat,k≤l.length∧i=Vi k∧Hid (Xj l l.length=Xj l (l.length-k))) (fun i=>l.length-(intOf i).toNat)
 case atStart=>exact⟨0,Nat.zero_le _,rfl,rfl⟩
 case round=>
  obtain⟨k,hk,rfl,hf⟩:=hrel
  by_cases hlt:k<l.length
  · obtain⟨b,off,rfl,hcs⟩:=HC.out.at (Wq hlt);have hcell:=hcs k hlt;clear hcs
    have hs:Xj l (l.length-k)=if Zu (at0 l k) then Xj l (l.length-(k+1)) else(k:Int):=by
     have e:l.length-k=(l.length-(k+1))+1:=by omega
     have e2:l.length-(l.length-(k+1)+1)=k:=by omega
     rw[e];simp only[Xj,e2]
    generalize at0 l k=z at hcell hs
    by_cases hz:Zu z=true
    · rw[if_pos hz] at hs;have HS:Hid (Xj l l.length=Xj l (l.length-(k+1))):=hf.out.trans hs;clear hs hf
      go_wp2_with (go_at_call 266;refine(isBeyond_any _ _).mono ?_;rintro e w' ⟨rfl,rfl⟩)
      go_round
      case rel=>exact⟨k+1,by omega,by go_num,HS⟩
      case measure=>simp[intOf];omega
    · rw[if_neg hz] at hs;have HS:Hid (Xj l l.length=k):=hf.out.trans hs
      have hz':Zu z=false:=by simpa using hz
      clear hs hf hz
      go_wp2_with (go_at_call 266;refine(isBeyond_any _ _).mono ?_;rintro e w' ⟨rfl,rfl⟩);go_ret;exact⟨by rw[HS.out];rfl,rfl⟩
  · go_wp2;go_ret
    have:k=l.length:=by omega
    subst this;exact⟨by rw[hf.out,Nat.sub_self];rfl,rfl⟩
theorem contains_any(a:Option Addr)(cap:Nat)(l:List Int)(w:World)(hm:l.length≤9223372036854775807)(hc:Lst w a l):
 Calls prog 265 #[.slice a l.length cap,.func (.func 266) #[] #[]] w (Re w (.bool (Zw l==1))):=by
 have e:=beyond_neg l l.length (Nat.le_refl _);rw[Nat.sub_self,List.drop_zero] at e;have hi:=index_any a cap l w hm hc;generalize Xj l l.length=n at e hi
 have e':(Zw l==1)=decide (0≤n):=by
  by_cases h:0≤n
  · rw[decide_eq_true h];simpa using e.mp h
  · rw[decide_eq_false h];simpa using fun q=>h (e.mpr q)
 rw[e'];clear e e' hc
 go_enter func265,ntmps265
 go_wp2_with (go_at_call 283;refine hi.mono ?_;rintro e w' ⟨rfl,rfl⟩);go_ret;exact⟨rfl,rfl⟩
theorem Zhe(a:Option Addr)(cap:Nat)(l:List Int)(w:World)(hm:l.length≤9223372036854775807)(hc:Lst w a l):
 Calls prog 249 #[.slice a l.length cap] w (Re w (errV (Zw l))):=by
 have hi:=contains_any a cap l w hm hc;clear hc
 rcases Nj l with h|h
 · rw[h] at hi⊢
   go_enter func249,ntmps249
   go_wp2_with (go_at_call 265;refine hi.mono ?_;rintro e w' ⟨rfl,rfl⟩);go_ret;exact⟨rfl,rfl⟩
 · rw[h] at hi⊢
   go_enter func249,ntmps249
   go_wp2_with (go_at_call 265;refine hi.mono ?_;rintro e w' ⟨rfl,rfl⟩);go_ret;exact⟨rfl,rfl⟩
theorem rising_first(l:List Int)(b:Bool)(hb:b=Z6 l (l.length-1)):Zm [if decide ((l.length:Int)<2)=true then 3 else 0,if decide (8<(l.length:Int))=true then 2 else 0,Zw l,if b=true then 3 else 0]=Yl l:=by
 subst hb
 unfold Yl
 by_cases h1:l.length<2
 · rw[if_pos h1,decide_eq_true (show(l.length:Int)<2 by omega)];rfl
 · rw[if_neg h1,decide_eq_false (show ¬(l.length:Int)<2 by omega)]
   by_cases h2:8<l.length
   · rw[if_pos h2,decide_eq_true (show 8<(l.length:Int) by omega)];rfl
   · rw[if_neg h2,decide_eq_false (show ¬8<(l.length:Int) by omega)]
     rcases Nj l with h|h
     · rw[h,if_pos rfl];cases Z6 l (l.length-1)<;>rfl
     · rw[h];rfl
theorem rising_any(a:Option Addr)(cap:Nat)(l:List Int)(w:World)(hm:l.length≤9223372036854775807)(hc:Lst w a l):
 Calls prog 196 #[.slice a l.length cap] w fun r w'=>r=.returned (Vi (Yl l))∧Bw w w':=by
 have HC:Hid (Lst w a l):=hc;clear hc
 go_enter func196,ntmps196
 go_wp2
 go_loopw [3,4] (fun f i wr=>∃j:Nat,j≤l.length-1∧i=Vi ((j+1:Nat):Int)∧f=.bool (Z6 l j)∧Bw w wr) (fun f i _=>l.length-(intOf i).toNat)
 case atStart=>exact⟨0,Nat.zero_le _,rfl,rfl,Below.refl _ _⟩
 case round=>
  obtain⟨j,hj,rfl,rfl,hbr⟩:=hrel
  by_cases hlt:j+1<l.length
  · obtain⟨b,off,rfl,hcs⟩:=(HC.out.later hbr).at (Wq hlt);have hcell1:=hcs (j+1) hlt;have hcell0:=hcs j (by omega);clear hcs;have hs:Z6 l (j+1)=(Z6 l j||decide (at0 l (j+1)≤at0 l j)):=rfl;generalize at0 l j=y at hcell0 hs;generalize at0 l (j+1)=z at hcell1 hs;generalize Z6 l j=f at hs⊢;have HS:Hid (Z6 l (j+1)=(f||decide (z≤y))):=hs;clear hs
    have t1:(((j+1:Nat):Int)-1).toNat=j:=by omega
    have t0:(((j+1:Nat):Int)).toNat=j+1:=by omega
    have b0:(0:Int)≤((j+1:Nat):Int)-1:=by omega
    have b1:((j+1:Nat):Int)-1<(l.length:Int):=by omega
    have b2:((j+1:Nat):Int)<(l.length:Int):=by omega
    have b3:(0:Int)≤((j+1:Nat):Int):=by omega
    generalize hi:((j+1:Nat):Int)=i at*
    cases f
    · go_wp2;go_quiet (fail);go_wp2;go_roundw
      case rel=>exact⟨j+1,by omega,by subst hi;go_num,by rw[HS.out];simp,below_drewN hbr _⟩
      case measure=>simp[intOf];omega
    · go_wp2;go_quiet (fail);go_wp2;go_roundw
      case rel=>exact⟨j+1,by omega,by subst hi;go_num,by rw[HS.out];simp,below_drewN hbr _⟩
      case measure=>simp[intOf];omega
  · have ej:j=l.length-1:=by omega
    have hw:=worth_any a cap l wr hm (HC.out.later hbr)
    have b2:¬((j+1:Nat):Int)<(l.length:Int):=by omega
    generalize hi:((j+1:Nat):Int)=i at *;generalize hf:Z6 l j=f;have hfirst:=rising_first l f (by rw[←hf,ej])
    go_wp2_with (first
     |(go_at_call 14;refine(when_named _ _ _).mono ?_;rintro e w' ⟨x,rfl,hx,rfl⟩)
     |(go_at_call 197;refine hw.mono ?_;rintro e w' ⟨rfl,rfl⟩)
     |(go_at_call 13;refine(first_new4 _ _ _ _ _ _).mono ?_;rintro e w' ⟨rfl,rfl⟩))
    go_ret
    rename_i x0 h0 x1 h1
    rw[←hfirst];refine⟨?_,hbr.alloc hbr.size _⟩;rw[←h0.out,←h1.out,←hx.out];rfl
theorem falls_iff(l:List Int):∀n,Z6 l n=false↔∀k,k<n→at0 l k<at0 l (k+1)
 |0=>by simp[Z6]
 |n+1=>by
  simp only[Z6,Bool.or_eq_false_iff,decide_eq_false_iff_not,falls_iff l n]
  constructor
  · rintro⟨h,q⟩ k hk
    by_cases e:k=n
    · subst e;omega
    · exact h k (by omega)
  · intro h;exact⟨fun k hk=>h k (by omega),by have:=h n (by omega);omega⟩
theorem checkPlaces_any(a:Option Addr)(cap:Nat)(l:List Int)(w:World)(hm:l.length≤9223372036854775807)(hcap:l.length≤cap)(hc:Lst w a l):
 Calls prog 248 #[.slice a l.length cap] w fun r w'=>r=.returned (errV (Yl l))∧Bw w w':=by
 have hw:=Zhe a cap l w hm hc
 by_cases h1:l.length<2
 · have e:Yl l=3:=by unfold Yl;rw[if_pos h1]
   rw[e];clear e
   have h1':(l.length:Int)<2:=by omega
   go_enter func248,ntmps248
   go_wp2_with fail;go_ret;exact⟨rfl,Below.refl _ _⟩
 by_cases h2:8<l.length
 · have e:Yl l=2:=by unfold Yl;rw[if_neg h1,if_pos h2]
   rw[e];clear e
   have h1':¬(l.length:Int)<2:=by omega
   have h2':8<(l.length:Int):=by omega
   go_enter func248,ntmps248
   go_wp2_with fail;go_ret;exact⟨rfl,Below.refl _ _⟩
 have h1':¬(l.length:Int)<2:=by omega
 have h2':¬8<(l.length:Int):=by omega
 rcases Nj l with h3|h3
 · have e:Yl l=if Z6 l (l.length-1) then 3 else 0:=by unfold Yl;rw[if_neg h1,if_neg h2,if_pos h3]
   have HE:Hid (Yl l=if Z6 l (l.length-1) then 3 else 0):=e;clear e;rw[h3] at hw;obtain⟨b,off,rfl,hcs⟩:=hc.at (Wq (k:=0) (by omega));have HC:Hid (∀k,k<l.length→Kc w b (off+k) (Vi (at0 l k))):=hcs;clear hc hcs h3
   have hw':∀w0,w0=w→Calls prog 249 #[.slice (some (Ad b off)) l.length cap] w0 fun r w'=>r=.returned .nilIface∧w'=w0:=by rintro w0 rfl;exact hw
   clear hw
   go_enter func248,ntmps248
   go_wp2_with (go_at_call 249;refine(hw' _ rfl).mono ?_;rintro e w' ⟨rfl,rfl⟩)
   go_loop [22] (fun i=>∃k:Nat,k+1≤l.length∧i=Vi k∧Hid (Z6 l k=false)) (fun i=>l.length-(intOf i).toNat)
   case atStart=>exact⟨0,by omega,rfl,rfl⟩
   case round=>
    obtain⟨k,hk,rfl,hf⟩:=hrel
    by_cases hlt:k+1<l.length
    · have hcell0:=HC.out k (by omega);have hcell1:=HC.out (k+1) hlt
      have ea:off+(k+1)=off+1+k:=by omega
      rw[ea] at hcell1
      by_cases hz:at0 l (k+1)≤at0 l k
      · have HS:Hid (Z6 l (l.length-1)=true):=by
         show Z6 l (l.length-1)=true
         cases e:Z6 l (l.length-1)
         · have:=(falls_iff l _).mp e k (by omega);omega
         · rfl
        clear hf;generalize at0 l (k+1)=z at *;generalize at0 l k=y at *;go_wp2_with fail;go_ret;exact⟨by rw[HE.out,HS.out];rfl,Below.refl _ _⟩
      · have HS:Hid (Z6 l (k+1)=false):=by
         show Z6 l (k+1)=false
         simp only[Z6,Bool.or_eq_false_iff,decide_eq_false_iff_not];exact⟨hf.out,hz⟩
        clear hf;generalize at0 l (k+1)=z at *;generalize at0 l k=y at *;go_wp2_with fail
        go_round
        case rel=>exact⟨k+1,by omega,by go_num,HS⟩
        case measure=>simp[intOf];omega
    · have HS:Hid (Z6 l (l.length-1)=false):=by
       have:k=l.length-1:=by omega
       subst this;exact hf
      clear hf;go_wp2_with fail;go_ret;exact⟨by rw[HE.out,HS.out];rfl,Below.refl _ _⟩
 · have e:Yl l=1:=by unfold Yl;rw[if_neg h1,if_neg h2,h3];rfl
   rw[e];clear e;rw[h3] at hw;have hw':Calls prog 249 #[.slice a l.length cap] w (Re w (.iface 44 (Vi 1))):=hw;clear hw hc h3
   go_enter func248,ntmps248
   go_wp2_with (go_at_call 249;refine hw'.mono ?_;rintro e w' ⟨rfl,rfl⟩);go_ret;exact⟨rfl,Below.refl _ _⟩
theorem ends_any(b off cap:Nat)(l:List Int)(w:World)(hm:l.length≤9223372036854775807)(hl:0<l.length)(hc:∀k,k<l.length→Kc w b (off+k) (Vi (at0 l k))):
 Calls prog 288 #[.slice (some (Ad b off)) l.length cap] w fun r w'=>r=.returned (.tuple #[Vi (at0 l 0),Vi (at0 l (l.length-1))])∧∃n,w'=w.drewN n:=by
 have c0:=hc 0 hl;have c1:=hc (l.length-1) (by omega);clear hc;rw[Nat.add_zero] at c0;generalize at0 l 0=y at *;generalize at0 l (l.length-1)=z at*
 have t1:((l.length:Int)-1).toNat=l.length-1:=by omega
 go_enter func288,ntmps288
 go_wp2;go_quiet (fail);go_wp2;go_ret2;exact⟨rfl,_,rfl⟩
theorem stand_any(b off cap:Nat)(l:List Int)(x:Int)(w:World)(p:Places l)(hc:∀k,k<l.length→Kc w b (off+k) (Vi (at0 l k))):
 Calls prog 281 #[.slice (some (Ad b off)) l.length cap,Vi x] w fun r w'=>∃i:Nat,r=.returned (.tuple #[Vi i,Vi (Z3 l x-at0 l i),Vi (at0 l (i+1)-Z3 l x)])∧Stands l (Z3 l x) i∧∃n,w'=w.drewN n:=by
 have hl2:=p.lo;have hl8:=p.hi;have HP:Hid (Places l):=p;have HC:Hid (∀k,k<l.length→Kc w b (off+k) (Vi (at0 l k))):=hc;have he:=ends_any b off cap l w (by omega) (by omega) hc;have hb:=clipE_bd p x;have w0:=Xi p.worth 0 (by omega);have w1:=Xi p.worth (l.length-1) (by omega);have hx:Ze x (at0 l 0) (at0 l (l.length-1))=Z3 l x:=rfl
 have c0:-1000000≤Z3 l x:=by omega
 have c1:Z3 l x≤1000000:=by omega
 have HB:Hid (at0 l 0≤Z3 l x∧Z3 l x≤at0 l (l.length-1)):=hb;have hk:∀w,Calls prog 172 #[Vi x,Vi (at0 l 0),Vi (at0 l (l.length-1))] w (Re w (Vi (Z3 l x))):=fun w=>Yu x _ _ w;clear hc hb w0 w1 hx p;generalize Z3 l x=c at *;generalize hy:at0 l 0=y at he hk;generalize hz:at0 l (l.length-1)=z at he hk
 go_enter func281,ntmps281
 go_wp2_with (first
  |(go_at_call 288;refine he.mono ?_;rintro e w' ⟨rfl,n,rfl⟩)
  |(go_at_call 172;refine(hk _).mono ?_;rintro e w' ⟨rfl,rfl⟩))
 clear he hk hy hz
 go_loop [4] (fun i=>∃k:Nat,k+1<l.length∧i=Vi k∧Hid (at0 l k≤c)) (fun i=>l.length-(intOf i).toNat)
 case atStart=>exact⟨0,by omega,rfl,HB.out.1⟩
 case round=>
  obtain⟨k,hk,rfl,hf⟩:=hrel;have hcell1:=HC.out (k+1) hk;have hcell0:=HC.out k (by omega);have q0:=Xi HP.out.worth k (by omega);have q1:=Xi HP.out.worth (k+1) hk
  have t1:((k:Int)+1).toNat=k+1:=by omega
  by_cases hlt:k+2<l.length
  · by_cases hz:at0 l (k+1)≤c
    · clear hf q0 q1 hcell0;have HS:Hid (at0 l (k+1)≤c):=hz;generalize at0 l (k+1)=z at hcell1 hz;go_wp2
      go_round
      case rel=>exact⟨k+1,by omega,by go_num,HS⟩
      case measure=>simp[intOf];omega
    · have HS:Hid (Stands l c k):=⟨hk,hf.out,by omega,fun _=>by omega⟩;clear hf;generalize hz1:at0 l (k+1)=z at *;generalize hz0:at0 l k=y at *;go_wp2;go_quiet (fail);go_wp2;refine bodyPost_ret (v:=.tuple #[Vi k,Vi (c-y),Vi (z-c)]) (by simp[results,results281,go_sem]) rfl ⟨k,by rw[hz1,hz0],HS,?_⟩;exact⟨_,World.drewN_drewN _ _ _⟩
  · have HS:Hid (Stands l c k):=⟨hk,hf.out,by have:=HB.out.2;rw[show l.length-1=k+1 by omega] at this;exact this,fun h=>absurd h hlt⟩
    have hlt':¬(k:Int)+2<(l.length:Int):=by omega
    clear hf;generalize hz1:at0 l (k+1)=z at *;generalize hz0:at0 l k=y at *;go_wp2;go_quiet (fail);go_wp2;refine bodyPost_ret (v:=.tuple #[Vi k,Vi (c-y),Vi (z-c)]) (by simp[results,results281,go_sem]) rfl ⟨k,by rw[hz1,hz0],HS,?_⟩;exact⟨_,World.drewN_drewN _ _ _⟩
theorem along_any(ba oa ca bz oz cz:Nat)(a z:List Int)(x:Int)(w:World)(p:Places a)(hz:Zw z=0)(hlen:a.length=z.length)(ha:∀k,k<a.length→Kc w ba (oa+k) (Vi (at0 a k)))(hi:∀k,k<z.length→Kc w bz (oz+k) (Vi (at0 z k))):
 Calls prog 263 #[.agg (Qas ba oa ca bz oz cz a z),Vi x] w fun r w'=>r=.returned (Vi (Yz a z x))∧Bw w w':=by
 have hl2:=p.lo;have hl8:=p.hi;have HP:Hid (Places a∧Zw z=0∧a.length=z.length):=⟨p,hz,hlen⟩;have hA:∀o,Bw w (w.alloc o):=fun o=>(Below.refl _ _).alloc (Nat.le_refl _) o;have HI:Hid (∀k,k<z.length→Kc w bz (oz+k) (Vi (at0 z k))):=hi;have hs:∀o,Calls prog 281 #[.slice (some (Ad ba oa)) a.length ca,Vi x] (w.alloc o) _:=fun o=>stand_any ba oa ca a x (w.alloc o) p (fun k hk=>cell_later (hA o) (ha k hk));clear ha hi p hz hlen
 go_enter func263,ntmps263
 go_upto_region 2 with(go_at_call 281;refine(hs _).mono ?_;rintro e w' ⟨i,rfl,st,n,rfl⟩);have i1:=st.lt
 have i2:i+1<z.length:=by have:=HP.out.2.2;omega
 have HL:Hid (Yz a z x=Xv a z (Z3 a x) i):=Nk HP.out.1 st;have q0:=Xi HP.out.1.worth i (by omega);have q1:=Xi HP.out.1.worth (i+1) (by omega);have r0:=Xi HP.out.2.1 i (by omega);have r1:=Xi HP.out.2.1 (i+1) (by omega);have u:=HP.out.1.up i (by omega);have s0:=st.past;have s1:=st.left;obtain⟨w1,hw1⟩:∃w1,(w.alloc (.cells (Qas ba oa ca bz oz cz a z) 24)).drewN n=w1:=⟨_,rfl⟩
 have b1:w1.cell? (Ad w.heap.size 1)=some (.slice (some (Ad bz oz)) z.length cz):=by rw[←hw1];simp[go_sem]
 have hB:Bw w w1:=by rw[←hw1];exact below_drewN (hA _) _
 rw[hw1];clear hw1;have c0:=cell_later hB (HI.out i (by omega));have c1:=cell_later hB (HI.out (i+1) (by omega))
 unfold Xv at HL
 clear st hs;generalize Z3 a x=c at *;generalize at0 a i=a0 at *;generalize at0 a (i+1)=a1 at *;generalize at0 z i=z0 at *;generalize at0 z (i+1)=z1 at*
 have t1:((i:Int)+1).toNat=i+1:=by omega
 obtain⟨f,hf⟩:∃f,f=a1-c:=⟨_,rfl⟩;obtain⟨g,hg⟩:∃g,g=c-a0:=⟨_,rfl⟩
 have f0:0≤f:=by omega
 have g0:0≤g:=by omega
 have fg:0<f+g:=by omega
 have fg':f+g≤2000000:=by omega
 have m0:=mul_bdT (a:=z0) (b:=f) (A:=1000000) (B:=2000000) (by omega) (by omega) (by omega) (by omega);have m1:=mul_bdT (a:=z1) (b:=g) (A:=1000000) (B:=2000000) (by omega) (by omega) (by omega) (by omega)
 have ew:a1-a0=g+f:=by omega
 rw[←hf,←hg,ew] at HL;rw[←hf,←hg];clear hf hg ew;have hn:∀w,Calls prog 282 #[Vi (z0*f+z1*g),Vi (g+f)] w _:=fun w=>nearest_any (z0*f+z1*g) (g+f) (by omega) (by omega) (by omega) (by omega) w;go_quiet ((go_at_call 282;exact Calls.quiet_of (hn _)));go_wp2;go_ret;exact⟨by rw[HL.out];rfl,below_drewN hB _⟩
theorem tcheck_any(a z:Option Addr)(ca cz:Nat)(al zl:List Int)(w:World)(hm:al.length≤9223372036854775807)(hn:zl.length≤9223372036854775807)(hca:al.length≤ca)(ha:Lst w a al)(hz:Lst w z zl):
 Calls prog 229 #[.agg #[.slice a al.length ca,.slice z zl.length cz]] w fun r w'=>r=.returned (errV (Ye al zl))∧Bw w w':=by
 have hA:=Zb w (.cells #[.slice a al.length ca,.slice z zl.length cz] 24)
 have b1:(w.alloc (.cells #[.slice a al.length ca,.slice z zl.length cz] 24)).cell? (Ad w.heap.size 1)=some (.slice z zl.length cz):=by simp[go_sem]
 by_cases h1:al.length=zl.length
 · have h1':((al.length:Int) != (zl.length:Int))=false:=by simp;omega
   have e:Ye al zl=if Yl al=0 then Zw zl else Yl al:=by unfold Ye;rw[if_pos h1]
   have cp:=checkPlaces_any a ca al (w.alloc (.cells #[.slice a al.length ca,.slice z zl.length cz] 24)) hm hca (ha.later hA);clear h1
   by_cases h2:Yl al=0
   · rw[if_pos h2] at e;have E:Hid (Ye al zl=Zw zl):=e;rw[h2] at cp;have B1:Hid (∀u,Below (w.alloc (.cells #[.slice a al.length ca,.slice z zl.length cz] 24)).heap.size (w.alloc (.cells #[.slice a al.length ca,.slice z zl.length cz] 24)) u→Kc u w.heap.size 1 (.slice z zl.length cz)∧Bw w u):=fun u hb=>⟨cell_later hb b1,Zc hA hb⟩;have HZ:Hid (Lst w z zl):=hz;clear e h2 ha hz b1;have cp':Calls prog 248 #[.slice a al.length ca] (w.alloc (.cells #[.slice a al.length ca,.slice z zl.length cz] 24)) fun r w'=>r=.returned .nilIface∧Kc w' w.heap.size 1 (.slice z zl.length cz)∧Bw w w':=cp.mono fun _ u ⟨h,hb⟩=>⟨h,B1.out u hb⟩;clear cp hA B1
     go_enter func229,ntmps229
     go_wp2_with (first
      |(go_at_call 248;refine cp'.mono ?_;rintro e w1 ⟨rfl,hc1,hb1⟩)
      |(go_at_call 249;refine(Zhe z cz zl _ hn (HZ.out.later hb1)).mono ?_;rintro e w' ⟨rfl,rfl⟩))
     go_ret;exact⟨by rw[E.out];rfl,hb1⟩
   · rw[if_neg h2] at e;rw[e];clear e;rw[Z4 h2] at cp⊢;clear ha hz b1 h2
     go_enter func229,ntmps229
     go_wp2_with (go_at_call 248;refine cp.mono ?_;rintro e w1 ⟨rfl,hb⟩);go_ret;exact⟨rfl,Zc hA hb⟩
 · have h1':((al.length:Int) != (zl.length:Int))=true:=by simp;omega
   have e:Ye al zl=3:=by unfold Ye;rw[if_neg h1]
   rw[e];clear e h1 ha hz
   go_enter func229,ntmps229
   go_wp2_with fail;go_ret;exact⟨rfl,hA⟩
structure Line (w:World) (ba oa bz oz:Nat) (a z:List Int):Prop where
 may:Ye a z=0
 at':∀k,k<a.length→Kc w ba (oa+k) (Vi (at0 a k))
 is':∀k,k<z.length→Kc w bz (oz+k) (Vi (at0 z k))
theorem Line.later(h:Line w ba oa bz oz a z)(hb:Bw w w'):Line w' ba oa bz oz a z:=
 ⟨h.may,fun k hk=>cell_later hb (h.at' k hk),fun k hk=>cell_later hb (h.is' k hk)⟩
theorem Line.lstA(h:Line w ba oa bz oz a z):Lst w (some (Ad ba oa)) a:=.inr ⟨ba,oa,rfl,h.at'⟩
theorem Line.lstZ(h:Line w ba oa bz oz a z):Lst w (some (Ad bz oz)) z:=.inr ⟨bz,oz,rfl,h.is'⟩
theorem Line.len(h:Line w ba oa bz oz a z):2≤a.length∧a.length≤8∧a.length=z.length:=by
 obtain⟨h1,h2,_⟩:=line_of h.may;exact⟨h2.lo,h2.hi,h1⟩
theorem check_ok(ba oa ca bz oz cz:Nat)(a z:List Int)(w:World)(hca:a.length≤ca)(h:Line w ba oa bz oz a z):
 Calls prog 229 #[.agg (Qas ba oa ca bz oz cz a z)] w fun r w'=>r=.returned .nilIface∧Bw w w':=by
 have:=tcheck_any (some (Ad ba oa)) (some (Ad bz oz)) ca cz a z w (by have:=h.len;omega) (by have:=h.len;omega) hca h.lstA h.lstZ
 rwa[h.may] at this
theorem along_ok(ba oa ca bz oz cz:Nat)(a z:List Int)(x:Int)(w:World)(h:Line w ba oa bz oz a z):
 Calls prog 263 #[.agg (Qas ba oa ca bz oz cz a z),Vi x] w fun r w'=>r=.returned (Vi (Yz a z x))∧Bw w w':=by
 obtain⟨h1,h2,h3⟩:=line_of h.may;exact along_any ba oa ca bz oz cz a z x w h2 h3 h1 h.at' h.is'
theorem look_ok(ba oa ca bz oz cz:Nat)(a z:List Int)(x:Int)(w:World)(hca:a.length≤ca)(h:Line w ba oa bz oz a z):
 Calls prog 240 #[.agg (Qas ba oa ca bz oz cz a z),Vi x] w fun r w'=>r=.returned (.tuple #[Vi (Yz a z x),.nilIface])∧Bw w w':=by
 have hA:=Zb w (.cells (Qas ba oa ca bz oz cz a z) 24);have ck:=check_ok ba oa ca bz oz cz a z _ hca (h.later hA);have ck':Calls prog 229 #[.agg (Qas ba oa ca bz oz cz a z)] (w.alloc (.cells (Qas ba oa ca bz oz cz a z) 24))
  fun r w'=>r=.returned .nilIface∧Kc w' w.heap.size 0 (.slice (some (Ad ba oa)) a.length ca)∧Kc w' w.heap.size 1 (.slice (some (Ad bz oz)) z.length cz)∧Bw w w':=
  ck.mono fun _ u ⟨h1,hb⟩=>⟨h1,cell_later hb (by simp[go_sem]),cell_later hb (by simp[go_sem]),Zc hA hb⟩
 have H:Hid (Line w ba oa bz oz a z):=h;clear h ck hA
 go_enter func240,ntmps240
 go_wp2_with (first
  |(go_at_call 229;refine ck'.mono ?_;rintro e w1 ⟨rfl,hc0,hc1,hb1⟩)
  |(go_at_call 263;refine Sb (along_ok ba oa ca bz oz cz a z x _ (H.out.later hb1)) fun w2 hb2=>?_))
 go_ret2;exact⟨rfl,Zc hb1 hb2⟩
theorem keepL{B ca cz la lz:Nat}{W u u':World}{a z:Option Addr}{al zl:List Int}(hb:Bw u u')(h:(u.cell? (Ad B 0)=some (.slice a la ca)∧u.cell? (Ad B 1)=some (.slice z lz cz))∧Lst u a al∧Lst u z zl∧Below B W u):
 (u'.cell? (Ad B 0)=some (.slice a la ca)∧u'.cell? (Ad B 1)=some (.slice z lz cz))∧Lst u' a al∧Lst u' z zl∧Below B W u':=by
 obtain⟨⟨h1,h2⟩,h3,h4,h5⟩:=h;have hs:=World.block_lt_of_cell? u ⟨B,0,none⟩ h1;exact⟨⟨cell_later hb h1,cell_later hb h2⟩,h3.later hb,h4.later hb,h5.trans (hb.mono (Nat.le_of_lt hs))⟩
theorem line_first(al zl:List Int)(x:Int)(hx:x=if((al.length:Int) != (zl.length:Int))=true then 3 else 0):Zm [x,Yl al,Zw zl]=Ye al zl:=by
 subst hx
 unfold Ye
 by_cases h:al.length=zl.length
 · have e:((al.length:Int) != (zl.length:Int))=false:=by simp;omega
   rw[e,if_pos h];simp only[Zm];simp
   rcases Nj zl with q|q<;>simp[q]
 · have e:((al.length:Int) != (zl.length:Int))=true:=by simp;omega
   rw[e,if_neg h];rfl
theorem lineMay_any(a z:Option Addr)(ca cz:Nat)(al zl:List Int)(w:World)(hm:al.length≤9223372036854775807)(hn:zl.length≤9223372036854775807)(ha:Lst w a al)(hz:Lst w z zl):
 Calls prog 140 #[.agg #[.slice a al.length ca,.slice z zl.length cz]] w fun r w'=>r=.returned (Vi (Ye al zl))∧Bw w w':=by
 have hA:=Zb w (.cells #[.slice a al.length ca,.slice z zl.length cz] 24)
 have ST:Hid (∀u,Below (w.alloc (.cells #[.slice a al.length ca,.slice z zl.length cz] 24)).heap.size (w.alloc (.cells #[.slice a al.length ca,.slice z zl.length cz] 24)) u→
  (Kc u w.heap.size 0 (.slice a al.length ca)∧Kc u w.heap.size 1 (.slice z zl.length cz))∧Lst u a al∧Lst u z zl∧Bw w u):=fun u hb=>
  keepL hb ⟨⟨by simp[go_sem],by simp[go_sem]⟩,ha.later hA,hz.later hA,hA⟩
 have hr:∀u,(Kc u w.heap.size 0 (.slice a al.length ca)∧Kc u w.heap.size 1 (.slice z zl.length cz))∧Lst u a al∧Lst u z zl∧Bw w u→
  Calls prog 196 #[.slice a al.length ca] u fun r w'=>r=.returned (Vi (Yl al))∧Bw u w':=fun u h=>rising_any a ca al u hm h.2.1
 have hw:∀u,(Kc u w.heap.size 0 (.slice a al.length ca)∧Kc u w.heap.size 1 (.slice z zl.length cz))∧Lst u a al∧Lst u z zl∧Bw w u→
  Calls prog 197 #[.slice z zl.length cz] u (Re u (Vi (Zw zl))):=fun u h=>worth_any z cz zl u hn h.2.2.1
 clear ha hz hA
 go_enter func140,ntmps140
 go_upto_region 1 with fail
 go_region_held3 (fun u=>(Kc u w.heap.size 0 (.slice a al.length ca)∧Kc u w.heap.size 1 (.slice z zl.length cz))∧Lst u a al∧Lst u z zl∧Bw w u)
  (first
   |(with_reducible assumption)
   |(with_reducible refine keepL (Zb _ _) ?_;with_reducible assumption)
   |(with_reducible apply keepL;with_reducible assumption;with_reducible assumption)
   |(refine ST.out _ ?_;exact(Below.refl _ _).drew))
  (first
   |(go_at_call 14;refine(when_named _ _ _).mono ?_;rintro e w' ⟨x,rfl,hx,rfl⟩)
   |(go_at_call 196;refine(hr _ ?_).mono ?_;(with_reducible assumption);rintro e w' ⟨rfl,hb⟩)
   |(go_at_call 197;refine(hw _ ?_).mono ?_;(with_reducible assumption);rintro e w' ⟨rfl,rfl⟩)
   |(go_at_call 13;refine(first_new3 _ _ _ _ _).mono ?_;rintro e w' ⟨rfl,rfl⟩))
 all_goals (
  rename_i hH
  have hBf:=hH.2.2.2;clear hH ST;go_wp2;go_ret
  exact⟨by rw[line_first al zl _ hx.out];rfl,hBf⟩)
theorem refLook_ok(ba oa ca bz oz cz:Nat)(a z:List Int)(x:Int)(w:World)(h:Line w ba oa bz oz a z):
 Calls prog 144 #[.agg (Qas ba oa ca bz oz cz a z),Vi x] w fun r w'=>r=.returned (Vi (Yz a z x))∧Bw w w':=by
 obtain⟨hl,p,hz⟩:=line_of h.may;have hl2:=p.lo;have hl8:=p.hi;have hA:=Zb w (.cells (Qas ba oa ca bz oz cz a z) 24);have h':=h.later hA;have a0:=h'.at' 0 (by omega);have a1:=h'.at' (a.length-1) (by omega)
 have t1:((a.length:Int)-1).toNat=a.length-1:=by omega
 rw[Nat.add_zero] at a0
 by_cases c1:at0 a (a.length-1)≤x
 · rw[look_last p c1];have z1:=h'.is' (a.length-1) (by omega)
   have i1:(a.length:Int)-1<(z.length:Int):=by omega
   have i0:(0:Int)≤(a.length:Int)-1:=by omega
   clear h h' hz p hl a0;generalize at0 a (a.length-1)=p1 at *;generalize at0 z (a.length-1)=p2 at*
   go_enter func144,ntmps144
   go_wp2_with fail;go_ret;exact⟨rfl,hA⟩
 by_cases c2:x≤at0 a 0
 · rw[look_first p c2];have z1:=h'.is' 0 (by omega);rw[Nat.add_zero] at z1
   have i1:(0:Int)<(z.length:Int):=by omega
   clear h h' hz p hl;generalize at0 a (a.length-1)=p1 at *;generalize at0 a 0=p3 at *;generalize at0 z 0=p2 at*
   go_enter func144,ntmps144
   go_wp2_with fail;go_ret;exact⟨rfl,hA⟩
 have H:Hid (Line (w.alloc (.cells (Qas ba oa ca bz oz cz a z) 24)) ba oa bz oz a z∧Places a∧Zw z=0∧a.length=z.length∧at0 a 0≤x∧x≤at0 a (a.length-1)):=⟨h',p,hz,hl,by omega,by omega⟩;have W0:=Xi p.worth 0 (by omega);have W1:=Xi p.worth (a.length-1) (by omega)
 have x0:-1000000≤x:=by omega
 have x1:x≤1000000:=by omega
 clear h h' hz p hl W0 W1
 have START:Hid (a.length-2+1<a.length∧(a.length-2+2<a.length→x<at0 a (a.length-2+1))∧x≤at0 a (a.length-2+1)):=by
  have e:a.length-2+1=a.length-1:=by omega
  refine⟨by omega,fun q=>by omega,?_⟩;rw[e];exact H.out.2.2.2.2.2
 go_enter func144,ntmps144
 go_wp2_with fail;clear a0 a1 c1 c2 t1
 go_loop [6] (fun i=>∃k:Nat,i=Vi k∧Hid (k+1<a.length∧(k+2<a.length→x<at0 a (k+1))∧x≤at0 a (k+1))) (fun i=>(intOf i).toNat)
 case atStart=>exact⟨a.length-2,by congr 1;omega,START⟩
 case round=>
  obtain⟨k,rfl,hf⟩:=hrel;have k1:=hf.out.1;have a0:=H.out.1.at' k (by omega)
  by_cases hlt:x<at0 a k
  · have k0:0<k:=by
     rcases Nat.eq_zero_or_pos k with q|q
     · subst q;have:=H.out.2.2.2.2.1;omega
     · exact q
    have ek:k-1+1=k:=by omega
    have HS:Hid (k-1+1<a.length∧(k-1+2<a.length→x<at0 a (k-1+1))∧x≤at0 a (k-1+1)):=by
     rw[ek];exact⟨by omega,fun _=>hlt,by omega⟩
    clear hf;generalize at0 a k=y at a0 hlt;go_wp2_with fail
    go_round
    case rel=>exact⟨k-1,by congr 1;omega,HS⟩
    case measure=>simp[intOf];omega
  · have st:Stands a x k:=⟨hf.out.1,by omega,hf.out.2.2,hf.out.2.1⟩;have HL:Hid (Yz a z x=Xv a z x k):=look_mid H.out.2.1 H.out.2.2.2.2.1 H.out.2.2.2.2.2 st
    have k2:k+1<z.length:=by have:=H.out.2.2.2.1;omega
    have a1:=H.out.1.at' (k+1) (by omega);have z0:=H.out.1.is' k (by omega);have z1:=H.out.1.is' (k+1) (by omega);have q0:=Xi H.out.2.1.worth k (by omega);have q1:=Xi H.out.2.1.worth (k+1) (by omega);have r0:=Xi H.out.2.2.1 k (by omega);have r1:=Xi H.out.2.2.1 (k+1) (by omega);have u:=H.out.2.1.up k (by omega);have s0:=st.past;have s1:=st.left
    unfold Xv at HL
    clear hf st;generalize at0 a k=p0 at *;generalize at0 a (k+1)=p1 at *;generalize at0 z k=y0 at *;generalize at0 z (k+1)=y1 at*
    have t1:((k:Int)+1).toNat=k+1:=by omega
    have m0:=mul_bdT (a:=y0) (b:=p1-x) (A:=1000000) (B:=2000000) (by omega) (by omega) (by omega) (by omega);have m1:=mul_bdT (a:=y1) (b:=x-p0) (A:=1000000) (B:=2000000) (by omega) (by omega) (by omega) (by omega);have hn:∀w,Calls prog 199 #[Vi (y0*(p1-x)+y1*(x-p0)),Vi (p1-p0)] w _:=fun w=>up_any (y0*(p1-x)+y1*(x-p0)) (p1-p0) (by omega) (by omega) (by omega) (by omega) w
    go_upto_region 9 with fail;go_quiet (fail)
    go_upto_region 10 with fail;obtain⟨w1,hw1⟩:∃w1,(w.alloc (.cells (Qas ba oa ca bz oz cz a z) 24)).drewN nq=w1:=⟨_,rfl⟩
    have b0:w1.cell? (Ad w.heap.size 0)=some (.slice (some (Ad ba oa)) a.length ca):=by rw[←hw1];simp[go_sem]
    have b1:w1.cell? (Ad w.heap.size 1)=some (.slice (some (Ad bz oz)) z.length cz):=by rw[←hw1];simp[go_sem]
    have hq:Below (w.alloc (.cells (Qas ba oa ca bz oz cz a z) 24)).heap.size (w.alloc (.cells (Qas ba oa ca bz oz cz a z) 24)) w1:=by rw[←hw1];exact below_drewN (Below.refl _ _) _
    have hB:=Zc hA hq;have a0':=cell_later hq a0;have a1':=cell_later hq a1;have z0':=cell_later hq z0;have z1':=cell_later hq z1;rw[hw1];clear hw1 hq a0 a1 z0 z1;go_quiet ((go_at_call 199;exact Calls.quiet_of_same (hn _)));go_wp2;go_ret;exact⟨by rw[HL.out];rfl,below_drewN hB _⟩
end Go.Proofs.YtnfdfiholcelaaaGreatDoor
