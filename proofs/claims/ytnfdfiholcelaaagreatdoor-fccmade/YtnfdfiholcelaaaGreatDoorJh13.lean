
import Derived.Test.YtnfdfiholcelaaaGreatDoorJh00
import Derived.Test.YtnfdfiholcelaaaGreatDoorJh01
import Derived.Test.YtnfdfiholcelaaaGreatDoorJh12
set_option maxRecDepth 100000
set_option maxHeartbeats 20000000
namespace Go.Proofs.YtnfdfiholcelaaaGreatDoor
open Go.RowKit Plain Tryz
theorem rising_first(l:List Int)(b:Bool)(hb:b=Zbt l (l.length-1)):Zap [if decide ((l.length:Int)<2)=true then 3 else 0,if decide (8<(l.length:Int))=true then 2 else 0,Zbi l,if b=true then 3 else 0]=Zbp l:=by
 subst hb
 unfold Zbp
 by_cases h1:l.length<2
 · rw[if_pos h1,decide_eq_true (show(l.length:Int)<2 by omega)];rfl
 · rw[if_neg h1,decide_eq_false (show ¬(l.length:Int)<2 by omega)]
   by_cases h2:8<l.length
   · rw[if_pos h2,decide_eq_true (show 8<(l.length:Int) by omega)];rfl
   · rw[if_neg h2,decide_eq_false (show ¬8<(l.length:Int) by omega)]
     rcases Zfh l with h|h
     · rw[h,if_pos rfl];cases Zbt l (l.length-1)<;>rfl
     · rw[h];rfl
theorem rising_any(a:Option Addr)(cap:Nat)(l:List Int)(w:World)(hm:l.length≤9223372036854775807)(hc:Lst w a l):
 Calls prog 196 #[.slice a l.length cap] w fun r w'=>r=.returned (Vi (Zbp l))∧Below w.heap.size w w':=by
 have HC:Hid (Lst w a l):=hc;clear hc
 go_enter func196,ntmps196
 go_wp2
 go_loopw [3,4] (fun f i wr=>∃j:Nat,j≤l.length-1∧i=Vi ((j+1:Nat):Int)∧f=.bool (Zbt l j)∧Below w.heap.size w wr) (fun f i _=>l.length-(intOf i).toNat)
 case atStart=>exact⟨0,Nat.zero_le _,rfl,rfl,Below.refl _ _⟩
 case round=>
  obtain⟨j,hj,rfl,rfl,hbr⟩:=hrel
  by_cases hlt:j+1<l.length
  · obtain⟨b,off,rfl,hcs⟩:=(HC.out.later hbr).at (Zca hlt);have hcell1:=hcs (j+1) hlt;have hcell0:=hcs j (by omega);clear hcs;have hs:Zbt l (j+1)=(Zbt l j||decide (at0 l (j+1)≤at0 l j)):=rfl;generalize at0 l j=y at hcell0 hs;generalize at0 l (j+1)=z at hcell1 hs;generalize Zbt l j=f at hs⊢;have HS:Hid (Zbt l (j+1)=(f||decide (z≤y))):=hs;clear hs
    have t1:(((j+1:Nat):Int)-1).toNat=j:=by omega
    have t0:(((j+1:Nat):Int)).toNat=j+1:=by omega
    have b0:(0:Int)≤((j+1:Nat):Int)-1:=by omega
    have b1:((j+1:Nat):Int)-1<(l.length:Int):=by omega
    have b2:((j+1:Nat):Int)<(l.length:Int):=by omega
    have b3:(0:Int)≤((j+1:Nat):Int):=by omega
    generalize hi:((j+1:Nat):Int)=i at*
    cases f
    · go_wp2;go_quiet (fail);go_wp2;go_roundw
      case rel=>exact⟨j+1,by omega,by subst hi;go_num,by rw[HS.out];simp,below_drewN hbr _⟩
      case measure=>simp[intOf];omega
    · go_wp2;go_quiet (fail);go_wp2;go_roundw
      case rel=>exact⟨j+1,by omega,by subst hi;go_num,by rw[HS.out];simp,below_drewN hbr _⟩
      case measure=>simp[intOf];omega
  · have ej:j=l.length-1:=by omega
    have hw:=worth_any a cap l wr hm (HC.out.later hbr)
    have b2:¬((j+1:Nat):Int)<(l.length:Int):=by omega
    generalize hi:((j+1:Nat):Int)=i at *;generalize hf:Zbt l j=f;have hfirst:=rising_first l f (by rw[←hf,ej])
    go_wp2_with (first
     |(go_at_call 14;refine(when_named _ _ _).mono ?_;rintro e w' ⟨x,rfl,hx,rfl⟩)
     |(go_at_call 197;refine hw.mono ?_;rintro e w' ⟨rfl,rfl⟩)
     |(go_at_call 13;refine(first_new4 _ _ _ _ _ _).mono ?_;rintro e w' ⟨rfl,rfl⟩))
    go_ret
    rename_i x0 h0 x1 h1
    rw[←hfirst];refine⟨?_,hbr.alloc hbr.size _⟩;rw[←h0.out,←h1.out,←hx.out];rfl
theorem falls_iff(l:List Int):∀n,Zbt l n=false↔∀k,k<n→at0 l k<at0 l (k+1)
 |0=>by simp[Zbt]
 |n+1=>by
  simp only[Zbt,Bool.or_eq_false_iff,decide_eq_false_iff_not,falls_iff l n]
  constructor
  · rintro⟨h,q⟩ k hk
    by_cases e:k=n
    · subst e;omega
    · exact h k (by omega)
  · intro h;exact⟨fun k hk=>h k (by omega),by have:=h n (by omega);omega⟩
theorem checkPlaces_any(a:Option Addr)(cap:Nat)(l:List Int)(w:World)(hm:l.length≤9223372036854775807)(hcap:l.length≤cap)(hc:Lst w a l):
 Calls prog 248 #[.slice a l.length cap] w fun r w'=>r=.returned (errV (Zbp l))∧Below w.heap.size w w':=by
 have hw:=Zha a cap l w hm hc
 by_cases h1:l.length<2
 · have e:Zbp l=3:=by unfold Zbp;rw[if_pos h1]
   rw[e];clear e
   have h1':(l.length:Int)<2:=by omega
   go_enter func248,ntmps248
   go_wp2_with fail;go_ret;exact⟨rfl,Below.refl _ _⟩
 by_cases h2:8<l.length
 · have e:Zbp l=2:=by unfold Zbp;rw[if_neg h1,if_pos h2]
   rw[e];clear e
   have h1':¬(l.length:Int)<2:=by omega
   have h2':8<(l.length:Int):=by omega
   go_enter func248,ntmps248
   go_wp2_with fail;go_ret;exact⟨rfl,Below.refl _ _⟩
 have h1':¬(l.length:Int)<2:=by omega
 have h2':¬8<(l.length:Int):=by omega
 rcases Zfh l with h3|h3
 · have e:Zbp l=if Zbt l (l.length-1) then 3 else 0:=by unfold Zbp;rw[if_neg h1,if_neg h2,if_pos h3]
   have HE:Hid (Zbp l=if Zbt l (l.length-1) then 3 else 0):=e;clear e;rw[h3] at hw;obtain⟨b,off,rfl,hcs⟩:=hc.at (Zca (k:=0) (by omega));have HC:Hid (∀k,k<l.length→w.cell? (Ad b (off+k))=some (Vi (at0 l k))):=hcs;clear hc hcs h3
   have hw':∀w0,w0=w→Calls prog 249 #[.slice (some (Ad b off)) l.length cap] w0 fun r w'=>r=.returned .nilIface∧w'=w0:=by rintro w0 rfl;exact hw
   clear hw
   go_enter func248,ntmps248
   go_wp2_with (go_at_call 249;refine(hw' _ rfl).mono ?_;rintro e w' ⟨rfl,rfl⟩)
   go_loop [22] (fun i=>∃k:Nat,k+1≤l.length∧i=Vi k∧Hid (Zbt l k=false)) (fun i=>l.length-(intOf i).toNat)
   case atStart=>exact⟨0,by omega,rfl,rfl⟩
   case round=>
    obtain⟨k,hk,rfl,hf⟩:=hrel
    by_cases hlt:k+1<l.length
    · have hcell0:=HC.out k (by omega);have hcell1:=HC.out (k+1) hlt
      have ea:off+(k+1)=off+1+k:=by omega
      rw[ea] at hcell1
      by_cases hz:at0 l (k+1)≤at0 l k
      · have HS:Hid (Zbt l (l.length-1)=true):=by
         show Zbt l (l.length-1)=true
         cases e:Zbt l (l.length-1)
         · have:=(falls_iff l _).mp e k (by omega);omega
         · rfl
        clear hf;generalize at0 l (k+1)=z at *;generalize at0 l k=y at *;go_wp2_with fail;go_ret;exact⟨by rw[HE.out,HS.out];rfl,Below.refl _ _⟩
      · have HS:Hid (Zbt l (k+1)=false):=by
         show Zbt l (k+1)=false
         simp only[Zbt,Bool.or_eq_false_iff,decide_eq_false_iff_not];exact⟨hf.out,hz⟩
        clear hf;generalize at0 l (k+1)=z at *;generalize at0 l k=y at *;go_wp2_with fail
        go_round
        case rel=>exact⟨k+1,by omega,by go_num,HS⟩
        case measure=>simp[intOf];omega
    · have HS:Hid (Zbt l (l.length-1)=false):=by
       have:k=l.length-1:=by omega
       subst this;exact hf
      clear hf;go_wp2_with fail;go_ret;exact⟨by rw[HE.out,HS.out];rfl,Below.refl _ _⟩
 · have e:Zbp l=1:=by unfold Zbp;rw[if_neg h1,if_neg h2,h3];rfl
   rw[e];clear e;rw[h3] at hw;have hw':Calls prog 249 #[.slice a l.length cap] w fun r w'=>r=.returned (.iface 44 (Vi 1))∧w'=w:=hw;clear hw hc h3
   go_enter func248,ntmps248
   go_wp2_with (go_at_call 249;refine hw'.mono ?_;rintro e w' ⟨rfl,rfl⟩);go_ret;exact⟨rfl,Below.refl _ _⟩
theorem ends_any(b off cap:Nat)(l:List Int)(w:World)(hm:l.length≤9223372036854775807)(hl:0<l.length)(hc:∀k,k<l.length→w.cell? (Ad b (off+k))=some (Vi (at0 l k))):
 Calls prog 288 #[.slice (some (Ad b off)) l.length cap] w fun r w'=>r=.returned (.tuple #[Vi (at0 l 0),Vi (at0 l (l.length-1))])∧∃n,w'=w.drewN n:=by
 have c0:=hc 0 hl;have c1:=hc (l.length-1) (by omega);clear hc;rw[Nat.add_zero] at c0;generalize at0 l 0=y at *;generalize at0 l (l.length-1)=z at*
 have t1:((l.length:Int)-1).toNat=l.length-1:=by omega
 go_enter func288,ntmps288
 go_wp2;go_quiet (fail);go_wp2;go_ret2;exact⟨rfl,_,rfl⟩
theorem stand_any(b off cap:Nat)(l:List Int)(x:Int)(w:World)(p:Places l)(hc:∀k,k<l.length→w.cell? (Ad b (off+k))=some (Vi (at0 l k))):
 Calls prog 281 #[.slice (some (Ad b off)) l.length cap,Vi x] w fun r w'=>∃i:Nat,r=.returned (.tuple #[Vi i,Vi (Zdf l x-at0 l i),Vi (at0 l (i+1)-Zdf l x)])∧Stands l (Zdf l x) i∧∃n,w'=w.drewN n:=by
 have hl2:=p.lo;have hl8:=p.hi;have HP:Hid (Places l):=p;have HC:Hid (∀k,k<l.length→w.cell? (Ad b (off+k))=some (Vi (at0 l k))):=hc;have he:=ends_any b off cap l w (by omega) (by omega) hc;have hb:=clipE_bd p x;have w0:=Zbr p.worth 0 (by omega);have w1:=Zbr p.worth (l.length-1) (by omega);have hx:Zal x (at0 l 0) (at0 l (l.length-1))=Zdf l x:=rfl
 have c0:-1000000≤Zdf l x:=by omega
 have c1:Zdf l x≤1000000:=by omega
 have HB:Hid (at0 l 0≤Zdf l x∧Zdf l x≤at0 l (l.length-1)):=hb;have hk:∀w,Calls prog 172 #[Vi x,Vi (at0 l 0),Vi (at0 l (l.length-1))] w fun e w'=>e=.returned (Vi (Zdf l x))∧w'=w:=fun w=>Zay x _ _ w;clear hc hb w0 w1 hx p;generalize Zdf l x=c at *;generalize hy:at0 l 0=y at he hk;generalize hz:at0 l (l.length-1)=z at he hk
 go_enter func281,ntmps281
 go_wp2_with (first
  |(go_at_call 288;refine he.mono ?_;rintro e w' ⟨rfl,n,rfl⟩)
  |(go_at_call 172;refine(hk _).mono ?_;rintro e w' ⟨rfl,rfl⟩))
 clear he hk hy hz
 go_loop [4] (fun i=>∃k:Nat,k+1<l.length∧i=Vi k∧Hid (at0 l k≤c)) (fun i=>l.length-(intOf i).toNat)
 case atStart=>exact⟨0,by omega,rfl,HB.out.1⟩
 case round=>
  obtain⟨k,hk,rfl,hf⟩:=hrel;have hcell1:=HC.out (k+1) hk;have hcell0:=HC.out k (by omega);have q0:=Zbr HP.out.worth k (by omega);have q1:=Zbr HP.out.worth (k+1) hk
  have t1:((k:Int)+1).toNat=k+1:=by omega
  by_cases hlt:k+2<l.length
  · by_cases hz:at0 l (k+1)≤c
    · clear hf q0 q1 hcell0;have HS:Hid (at0 l (k+1)≤c):=hz;generalize at0 l (k+1)=z at hcell1 hz;go_wp2
      go_round
      case rel=>exact⟨k+1,by omega,by go_num,HS⟩
      case measure=>simp[intOf];omega
    · have HS:Hid (Stands l c k):=⟨hk,hf.out,by omega,fun _=>by omega⟩;clear hf;generalize hz1:at0 l (k+1)=z at *;generalize hz0:at0 l k=y at *;go_wp2;go_quiet (fail);go_wp2;refine bodyPost_ret (v:=.tuple #[Vi k,Vi (c-y),Vi (z-c)]) (by simp[results,results281,go_sem]) rfl ⟨k,by rw[hz1,hz0],HS,?_⟩;exact⟨_,World.drewN_drewN _ _ _⟩
  · have HS:Hid (Stands l c k):=⟨hk,hf.out,by have:=HB.out.2;rw[show l.length-1=k+1 by omega] at this;exact this,fun h=>absurd h hlt⟩
    have hlt':¬(k:Int)+2<(l.length:Int):=by omega
    clear hf;generalize hz1:at0 l (k+1)=z at *;generalize hz0:at0 l k=y at *;go_wp2;go_quiet (fail);go_wp2;refine bodyPost_ret (v:=.tuple #[Vi k,Vi (c-y),Vi (z-c)]) (by simp[results,results281,go_sem]) rfl ⟨k,by rw[hz1,hz0],HS,?_⟩;exact⟨_,World.drewN_drewN _ _ _⟩
theorem along_any(ba oa ca bz oz cz:Nat)(a z:List Int)(x:Int)(w:World)(p:Places a)(hz:Zbi z=0)(hlen:a.length=z.length)
 (ha:∀k,k<a.length→w.cell? (Ad ba (oa+k))=some (Vi (at0 a k))) (hi:∀k,k<z.length→w.cell? (Ad bz (oz+k))=some (Vi (at0 z k))):
 Calls prog 263 #[.agg #[.slice (some (Ad ba oa)) a.length ca,.slice (some (Ad bz oz)) z.length cz],Vi x] w fun r w'=>r=.returned (Vi (Zfw a z x))∧Below w.heap.size w w':=by
 have hl2:=p.lo;have hl8:=p.hi;have HP:Hid (Places a∧Zbi z=0∧a.length=z.length):=⟨p,hz,hlen⟩;have hA:∀o,Below w.heap.size w (w.alloc o):=fun o=>(Below.refl _ _).alloc (Nat.le_refl _) o;have HI:Hid (∀k,k<z.length→w.cell? (Ad bz (oz+k))=some (Vi (at0 z k))):=hi;have hs:∀o,Calls prog 281 #[.slice (some (Ad ba oa)) a.length ca,Vi x] (w.alloc o) _:=fun o=>stand_any ba oa ca a x (w.alloc o) p (fun k hk=>cell_later (hA o) (ha k hk));clear ha hi p hz hlen
 go_enter func263,ntmps263
 go_upto_region 2 with(go_at_call 281;refine(hs _).mono ?_;rintro e w' ⟨i,rfl,st,n,rfl⟩);have i1:=st.lt
 have i2:i+1<z.length:=by have:=HP.out.2.2;omega
 have HL:Hid (Zfw a z x=Zek a z (Zdf a x) i):=Zfv HP.out.1 st;have q0:=Zbr HP.out.1.worth i (by omega);have q1:=Zbr HP.out.1.worth (i+1) (by omega);have r0:=Zbr HP.out.2.1 i (by omega);have r1:=Zbr HP.out.2.1 (i+1) (by omega);have u:=HP.out.1.up i (by omega);have s0:=st.past;have s1:=st.left;obtain⟨w1,hw1⟩:∃w1,(w.alloc (.cells #[.slice (some (Ad ba oa)) a.length ca,.slice (some (Ad bz oz)) z.length cz] 24)).drewN n=w1:=⟨_,rfl⟩
 have b1:w1.cell? (Ad w.heap.size 1)=some (.slice (some (Ad bz oz)) z.length cz):=by rw[←hw1];simp[go_sem]
 have hB:Below w.heap.size w w1:=by rw[←hw1];exact below_drewN (hA _) _
 rw[hw1];clear hw1;have c0:=cell_later hB (HI.out i (by omega));have c1:=cell_later hB (HI.out (i+1) (by omega))
 unfold Zek at HL
 clear st hs;generalize Zdf a x=c at *;generalize at0 a i=a0 at *;generalize at0 a (i+1)=a1 at *;generalize at0 z i=z0 at *;generalize at0 z (i+1)=z1 at*
 have t1:((i:Int)+1).toNat=i+1:=by omega
 obtain⟨f,hf⟩:∃f,f=a1-c:=⟨_,rfl⟩;obtain⟨g,hg⟩:∃g,g=c-a0:=⟨_,rfl⟩
 have f0:0≤f:=by omega
 have g0:0≤g:=by omega
 have fg:0<f+g:=by omega
 have fg':f+g≤2000000:=by omega
 have m0:=mul_bdT (a:=z0) (b:=f) (A:=1000000) (B:=2000000) (by omega) (by omega) (by omega) (by omega);have m1:=mul_bdT (a:=z1) (b:=g) (A:=1000000) (B:=2000000) (by omega) (by omega) (by omega) (by omega)
 have ew:a1-a0=g+f:=by omega
 rw[←hf,←hg,ew] at HL;rw[←hf,←hg];clear hf hg ew;have hn:∀w,Calls prog 282 #[Vi (z0*f+z1*g),Vi (g+f)] w _:=fun w=>nearest_any (z0*f+z1*g) (g+f) (by omega) (by omega) (by omega) (by omega) w;go_quiet ((go_at_call 282;exact Calls.quiet_of (hn _)));go_wp2;go_ret;exact⟨by rw[HL.out];rfl,below_drewN hB _⟩
theorem tcheck_any(a z:Option Addr)(ca cz:Nat)(al zl:List Int)(w:World)(hm:al.length≤9223372036854775807)(hn:zl.length≤9223372036854775807)(hca:al.length≤ca)(ha:Lst w a al)(hz:Lst w z zl):
 Calls prog 229 #[.agg #[.slice a al.length ca,.slice z zl.length cz]] w fun r w'=>r=.returned (errV (Zdw al zl))∧Below w.heap.size w w':=by
 have hA:=Zaa w (.cells #[.slice a al.length ca,.slice z zl.length cz] 24)
 have b1:(w.alloc (.cells #[.slice a al.length ca,.slice z zl.length cz] 24)).cell? (Ad w.heap.size 1)=some (.slice z zl.length cz):=by simp[go_sem]
 by_cases h1:al.length=zl.length
 · have h1':((al.length:Int) != (zl.length:Int))=false:=by simp;omega
   have e:Zdw al zl=if Zbp al=0 then Zbi zl else Zbp al:=by unfold Zdw;rw[if_pos h1]
   have cp:=checkPlaces_any a ca al (w.alloc (.cells #[.slice a al.length ca,.slice z zl.length cz] 24)) hm hca (ha.later hA);clear h1
   by_cases h2:Zbp al=0
   · rw[if_pos h2] at e;have E:Hid (Zdw al zl=Zbi zl):=e;rw[h2] at cp;have B1:Hid (∀u,Below (w.alloc (.cells #[.slice a al.length ca,.slice z zl.length cz] 24)).heap.size (w.alloc (.cells #[.slice a al.length ca,.slice z zl.length cz] 24)) u→u.cell? (Ad w.heap.size 1)=some (.slice z zl.length cz)∧Below w.heap.size w u):=fun u hb=>⟨cell_later hb b1,Zac hA hb⟩;have HZ:Hid (Lst w z zl):=hz;clear e h2 ha hz b1;have cp':Calls prog 248 #[.slice a al.length ca] (w.alloc (.cells #[.slice a al.length ca,.slice z zl.length cz] 24)) fun r w'=>r=.returned .nilIface∧w'.cell? (Ad w.heap.size 1)=some (.slice z zl.length cz)∧Below w.heap.size w w':=cp.mono fun _ u ⟨h,hb⟩=>⟨h,B1.out u hb⟩;clear cp hA B1
     go_enter func229,ntmps229
     go_wp2_with (first
      |(go_at_call 248;refine cp'.mono ?_;rintro e w1 ⟨rfl,hc1,hb1⟩)
      |(go_at_call 249;refine(Zha z cz zl _ hn (HZ.out.later hb1)).mono ?_;rintro e w' ⟨rfl,rfl⟩))
     go_ret;exact⟨by rw[E.out];rfl,hb1⟩
   · rw[if_neg h2] at e;rw[e];clear e;rw[Zbg h2] at cp⊢;clear ha hz b1 h2
     go_enter func229,ntmps229
     go_wp2_with (go_at_call 248;refine cp.mono ?_;rintro e w1 ⟨rfl,hb⟩);go_ret;exact⟨rfl,Zac hA hb⟩
 · have h1':((al.length:Int) != (zl.length:Int))=true:=by simp;omega
   have e:Zdw al zl=3:=by unfold Zdw;rw[if_neg h1]
   rw[e];clear e h1 ha hz
   go_enter func229,ntmps229
   go_wp2_with fail;go_ret;exact⟨rfl,hA⟩
structure Line (w:World) (ba oa bz oz:Nat) (a z:List Int):Prop where
 may:Zdw a z=0
 at':∀k,k<a.length→w.cell? (Ad ba (oa+k))=some (Vi (at0 a k))
 is':∀k,k<z.length→w.cell? (Ad bz (oz+k))=some (Vi (at0 z k))
theorem Line.later{w w':World}{ba oa bz oz:Nat}{a z:List Int}(h:Line w ba oa bz oz a z)(hb:Below w.heap.size w w'):Line w' ba oa bz oz a z:=
 ⟨h.may,fun k hk=>cell_later hb (h.at' k hk),fun k hk=>cell_later hb (h.is' k hk)⟩
theorem Line.lstA{w:World}{ba oa bz oz:Nat}{a z:List Int}(h:Line w ba oa bz oz a z):Lst w (some (Ad ba oa)) a:=.inr ⟨ba,oa,rfl,h.at'⟩
theorem Line.lstZ{w:World}{ba oa bz oz:Nat}{a z:List Int}(h:Line w ba oa bz oz a z):Lst w (some (Ad bz oz)) z:=.inr ⟨bz,oz,rfl,h.is'⟩
theorem Line.len{w:World}{ba oa bz oz:Nat}{a z:List Int}(h:Line w ba oa bz oz a z):2≤a.length∧a.length≤8∧a.length=z.length:=by
 obtain⟨h1,h2,_⟩:=line_of h.may;exact⟨h2.lo,h2.hi,h1⟩
theorem check_ok(ba oa ca bz oz cz:Nat)(a z:List Int)(w:World)(hca:a.length≤ca)(h:Line w ba oa bz oz a z):
 Calls prog 229 #[.agg #[.slice (some (Ad ba oa)) a.length ca,.slice (some (Ad bz oz)) z.length cz]] w fun r w'=>r=.returned .nilIface∧Below w.heap.size w w':=by
 have:=tcheck_any (some (Ad ba oa)) (some (Ad bz oz)) ca cz a z w (by have:=h.len;omega) (by have:=h.len;omega) hca h.lstA h.lstZ
 rwa[h.may] at this
theorem along_ok(ba oa ca bz oz cz:Nat)(a z:List Int)(x:Int)(w:World)(h:Line w ba oa bz oz a z):
 Calls prog 263 #[.agg #[.slice (some (Ad ba oa)) a.length ca,.slice (some (Ad bz oz)) z.length cz],Vi x] w fun r w'=>r=.returned (Vi (Zfw a z x))∧Below w.heap.size w w':=by
 obtain⟨h1,h2,h3⟩:=line_of h.may;exact along_any ba oa ca bz oz cz a z x w h2 h3 h1 h.at' h.is'
theorem look_ok(ba oa ca bz oz cz:Nat)(a z:List Int)(x:Int)(w:World)(hca:a.length≤ca)(h:Line w ba oa bz oz a z):
 Calls prog 240 #[.agg #[.slice (some (Ad ba oa)) a.length ca,.slice (some (Ad bz oz)) z.length cz],Vi x] w fun r w'=>r=.returned (.tuple #[Vi (Zfw a z x),.nilIface])∧Below w.heap.size w w':=by
 have hA:=Zaa w (.cells #[.slice (some (Ad ba oa)) a.length ca,.slice (some (Ad bz oz)) z.length cz] 24);have ck:=check_ok ba oa ca bz oz cz a z _ hca (h.later hA);have ck':Calls prog 229 #[.agg #[.slice (some (Ad ba oa)) a.length ca,.slice (some (Ad bz oz)) z.length cz]] (w.alloc (.cells #[.slice (some (Ad ba oa)) a.length ca,.slice (some (Ad bz oz)) z.length cz] 24))
  fun r w'=>r=.returned .nilIface∧w'.cell? (Ad w.heap.size 0)=some (.slice (some (Ad ba oa)) a.length ca)∧w'.cell? (Ad w.heap.size 1)=some (.slice (some (Ad bz oz)) z.length cz)∧Below w.heap.size w w':=
  ck.mono fun _ u ⟨h1,hb⟩=>⟨h1,cell_later hb (by simp[go_sem]),cell_later hb (by simp[go_sem]),Zac hA hb⟩
 have H:Hid (Line w ba oa bz oz a z):=h;clear h ck hA
 go_enter func240,ntmps240
 go_wp2_with (first
  |(go_at_call 229;refine ck'.mono ?_;rintro e w1 ⟨rfl,hc0,hc1,hb1⟩)
  |(go_at_call 263;refine Sb (along_ok ba oa ca bz oz cz a z x _ (H.out.later hb1)) fun w2 hb2=>?_))
 go_ret2;exact⟨rfl,Zac hb1 hb2⟩
theorem keepL{B ca cz la lz:Nat}{W u u':World}{a z:Option Addr}{al zl:List Int}(hb:Below u.heap.size u u')
 (h:(u.cell? (Ad B 0)=some (.slice a la ca)∧u.cell? (Ad B 1)=some (.slice z lz cz))∧Lst u a al∧Lst u z zl∧Below B W u):
 (u'.cell? (Ad B 0)=some (.slice a la ca)∧u'.cell? (Ad B 1)=some (.slice z lz cz))∧Lst u' a al∧Lst u' z zl∧Below B W u':=by
 obtain⟨⟨h1,h2⟩,h3,h4,h5⟩:=h;have hs:=World.block_lt_of_cell? u ⟨B,0,none⟩ h1;exact⟨⟨cell_later hb h1,cell_later hb h2⟩,h3.later hb,h4.later hb,h5.trans (hb.mono (Nat.le_of_lt hs))⟩
theorem line_first(al zl:List Int)(x:Int)(hx:x=if((al.length:Int) != (zl.length:Int))=true then 3 else 0):Zap [x,Zbp al,Zbi zl]=Zdw al zl:=by
 subst hx
 unfold Zdw
 by_cases h:al.length=zl.length
 · have e:((al.length:Int) != (zl.length:Int))=false:=by simp;omega
   rw[e,if_pos h];simp only[Zap];simp
   rcases Zfh zl with q|q<;>simp[q]
 · have e:((al.length:Int) != (zl.length:Int))=true:=by simp;omega
   rw[e,if_neg h];rfl
theorem lineMay_any(a z:Option Addr)(ca cz:Nat)(al zl:List Int)(w:World)(hm:al.length≤9223372036854775807)(hn:zl.length≤9223372036854775807)(ha:Lst w a al)(hz:Lst w z zl):
 Calls prog 140 #[.agg #[.slice a al.length ca,.slice z zl.length cz]] w fun r w'=>r=.returned (Vi (Zdw al zl))∧Below w.heap.size w w':=by
 have hA:=Zaa w (.cells #[.slice a al.length ca,.slice z zl.length cz] 24)
 have ST:Hid (∀u,Below (w.alloc (.cells #[.slice a al.length ca,.slice z zl.length cz] 24)).heap.size (w.alloc (.cells #[.slice a al.length ca,.slice z zl.length cz] 24)) u→
  (u.cell? (Ad w.heap.size 0)=some (.slice a al.length ca)∧u.cell? (Ad w.heap.size 1)=some (.slice z zl.length cz))∧Lst u a al∧Lst u z zl∧Below w.heap.size w u):=fun u hb=>
  keepL hb ⟨⟨by simp[go_sem],by simp[go_sem]⟩,ha.later hA,hz.later hA,hA⟩
 have hr:∀u,(u.cell? (Ad w.heap.size 0)=some (.slice a al.length ca)∧u.cell? (Ad w.heap.size 1)=some (.slice z zl.length cz))∧Lst u a al∧Lst u z zl∧Below w.heap.size w u→
  Calls prog 196 #[.slice a al.length ca] u fun r w'=>r=.returned (Vi (Zbp al))∧Below u.heap.size u w':=fun u h=>rising_any a ca al u hm h.2.1
 have hw:∀u,(u.cell? (Ad w.heap.size 0)=some (.slice a al.length ca)∧u.cell? (Ad w.heap.size 1)=some (.slice z zl.length cz))∧Lst u a al∧Lst u z zl∧Below w.heap.size w u→
  Calls prog 197 #[.slice z zl.length cz] u fun r w'=>r=.returned (Vi (Zbi zl))∧w'=u:=fun u h=>worth_any z cz zl u hn h.2.2.1
 clear ha hz hA
 go_enter func140,ntmps140
 go_upto_region 1 with fail
 go_region_held3 (fun u=>(u.cell? (Ad w.heap.size 0)=some (.slice a al.length ca)∧u.cell? (Ad w.heap.size 1)=some (.slice z zl.length cz))∧Lst u a al∧Lst u z zl∧Below w.heap.size w u)
  (first
   |(with_reducible assumption)
   |(with_reducible refine keepL (Zaa _ _) ?_;with_reducible assumption)
   |(with_reducible apply keepL;with_reducible assumption;with_reducible assumption)
   |(refine ST.out _ ?_;exact(Below.refl _ _).drew))
  (first
   |(go_at_call 14;refine(when_named _ _ _).mono ?_;rintro e w' ⟨x,rfl,hx,rfl⟩)
   |(go_at_call 196;refine(hr _ ?_).mono ?_;(with_reducible assumption);rintro e w' ⟨rfl,hb⟩)
   |(go_at_call 197;refine(hw _ ?_).mono ?_;(with_reducible assumption);rintro e w' ⟨rfl,rfl⟩)
   |(go_at_call 13;refine(Zhn _ _ _ _ _).mono ?_;rintro e w' ⟨rfl,rfl⟩))
 all_goals (
  rename_i hH
  have hBf:=hH.2.2.2;clear hH ST;go_wp2;go_ret
  exact⟨by rw[line_first al zl _ hx.out];rfl,hBf⟩)
theorem refLook_ok(ba oa ca bz oz cz:Nat)(a z:List Int)(x:Int)(w:World)(h:Line w ba oa bz oz a z):
 Calls prog 144 #[.agg #[.slice (some (Ad ba oa)) a.length ca,.slice (some (Ad bz oz)) z.length cz],Vi x] w fun r w'=>r=.returned (Vi (Zfw a z x))∧Below w.heap.size w w':=by
 obtain⟨hl,p,hz⟩:=line_of h.may;have hl2:=p.lo;have hl8:=p.hi;have hA:=Zaa w (.cells #[.slice (some (Ad ba oa)) a.length ca,.slice (some (Ad bz oz)) z.length cz] 24);have h':=h.later hA;have a0:=h'.at' 0 (by omega);have a1:=h'.at' (a.length-1) (by omega)
 have t1:((a.length:Int)-1).toNat=a.length-1:=by omega
 rw[Nat.add_zero] at a0
 by_cases c1:at0 a (a.length-1)≤x
 · rw[look_last p c1];have z1:=h'.is' (a.length-1) (by omega)
   have i1:(a.length:Int)-1<(z.length:Int):=by omega
   have i0:(0:Int)≤(a.length:Int)-1:=by omega
   clear h h' hz p hl a0;generalize at0 a (a.length-1)=p1 at *;generalize at0 z (a.length-1)=p2 at*
   go_enter func144,ntmps144
   go_wp2_with fail;go_ret;exact⟨rfl,hA⟩
 by_cases c2:x≤at0 a 0
 · rw[look_first p c2];have z1:=h'.is' 0 (by omega);rw[Nat.add_zero] at z1
   have i1:(0:Int)<(z.length:Int):=by omega
   clear h h' hz p hl;generalize at0 a (a.length-1)=p1 at *;generalize at0 a 0=p3 at *;generalize at0 z 0=p2 at*
   go_enter func144,ntmps144
   go_wp2_with fail;go_ret;exact⟨rfl,hA⟩
 have H:Hid (Line (w.alloc (.cells #[.slice (some (Ad ba oa)) a.length ca,.slice (some (Ad bz oz)) z.length cz] 24)) ba oa bz oz a z∧Places a∧Zbi z=0∧a.length=z.length∧at0 a 0≤x∧x≤at0 a (a.length-1)):=⟨h',p,hz,hl,by omega,by omega⟩;have W0:=Zbr p.worth 0 (by omega);have W1:=Zbr p.worth (a.length-1) (by omega)
 have x0:-1000000≤x:=by omega
 have x1:x≤1000000:=by omega
 clear h h' hz p hl W0 W1
 have START:Hid (a.length-2+1<a.length∧(a.length-2+2<a.length→x<at0 a (a.length-2+1))∧x≤at0 a (a.length-2+1)):=by
  have e:a.length-2+1=a.length-1:=by omega
  refine⟨by omega,fun q=>by omega,?_⟩;rw[e];exact H.out.2.2.2.2.2
 go_enter func144,ntmps144
 go_wp2_with fail;clear a0 a1 c1 c2 t1
 go_loop [6] (fun i=>∃k:Nat,i=Vi k∧Hid (k+1<a.length∧(k+2<a.length→x<at0 a (k+1))∧x≤at0 a (k+1))) (fun i=>(intOf i).toNat)
 case atStart=>exact⟨a.length-2,by congr 1;omega,START⟩
 case round=>
  obtain⟨k,rfl,hf⟩:=hrel;have k1:=hf.out.1;have a0:=H.out.1.at' k (by omega)
  by_cases hlt:x<at0 a k
  · have k0:0<k:=by
     rcases Nat.eq_zero_or_pos k with q|q
     · subst q;have:=H.out.2.2.2.2.1;omega
     · exact q
    have ek:k-1+1=k:=by omega
    have HS:Hid (k-1+1<a.length∧(k-1+2<a.length→x<at0 a (k-1+1))∧x≤at0 a (k-1+1)):=by
     rw[ek];exact⟨by omega,fun _=>hlt,by omega⟩
    clear hf;generalize at0 a k=y at a0 hlt;go_wp2_with fail
    go_round
    case rel=>exact⟨k-1,by congr 1;omega,HS⟩
    case measure=>simp[intOf];omega
  · have st:Stands a x k:=⟨hf.out.1,by omega,hf.out.2.2,hf.out.2.1⟩;have HL:Hid (Zfw a z x=Zek a z x k):=look_mid H.out.2.1 H.out.2.2.2.2.1 H.out.2.2.2.2.2 st
    have k2:k+1<z.length:=by have:=H.out.2.2.2.1;omega
    have a1:=H.out.1.at' (k+1) (by omega);have z0:=H.out.1.is' k (by omega);have z1:=H.out.1.is' (k+1) (by omega);have q0:=Zbr H.out.2.1.worth k (by omega);have q1:=Zbr H.out.2.1.worth (k+1) (by omega);have r0:=Zbr H.out.2.2.1 k (by omega);have r1:=Zbr H.out.2.2.1 (k+1) (by omega);have u:=H.out.2.1.up k (by omega);have s0:=st.past;have s1:=st.left
    unfold Zek at HL
    clear hf st;generalize at0 a k=p0 at *;generalize at0 a (k+1)=p1 at *;generalize at0 z k=y0 at *;generalize at0 z (k+1)=y1 at*
    have t1:((k:Int)+1).toNat=k+1:=by omega
    have m0:=mul_bdT (a:=y0) (b:=p1-x) (A:=1000000) (B:=2000000) (by omega) (by omega) (by omega) (by omega);have m1:=mul_bdT (a:=y1) (b:=x-p0) (A:=1000000) (B:=2000000) (by omega) (by omega) (by omega) (by omega);have hn:∀w,Calls prog 199 #[Vi (y0*(p1-x)+y1*(x-p0)),Vi (p1-p0)] w _:=fun w=>up_any (y0*(p1-x)+y1*(x-p0)) (p1-p0) (by omega) (by omega) (by omega) (by omega) w
    go_upto_region 9 with fail;go_quiet (fail)
    go_upto_region 10 with fail;obtain⟨w1,hw1⟩:∃w1,(w.alloc (.cells #[.slice (some (Ad ba oa)) a.length ca,.slice (some (Ad bz oz)) z.length cz] 24)).drewN nq=w1:=⟨_,rfl⟩
    have b0:w1.cell? (Ad w.heap.size 0)=some (.slice (some (Ad ba oa)) a.length ca):=by rw[←hw1];simp[go_sem]
    have b1:w1.cell? (Ad w.heap.size 1)=some (.slice (some (Ad bz oz)) z.length cz):=by rw[←hw1];simp[go_sem]
    have hq:Below (w.alloc (.cells #[.slice (some (Ad ba oa)) a.length ca,.slice (some (Ad bz oz)) z.length cz] 24)).heap.size (w.alloc (.cells #[.slice (some (Ad ba oa)) a.length ca,.slice (some (Ad bz oz)) z.length cz] 24)) w1:=by rw[←hw1];exact below_drewN (Below.refl _ _) _
    have hB:=Zac hA hq;have a0':=cell_later hq a0;have a1':=cell_later hq a1;have z0':=cell_later hq z0;have z1':=cell_later hq z1;rw[hw1];clear hw1 hq a0 a1 z0 z1;go_quiet ((go_at_call 199;exact Calls.quiet_of_same (hn _)));go_wp2;go_ret;exact⟨by rw[HL.out];rfl,below_drewN hB _⟩
def hunI(s n:Int):Int:=(s*n).tdiv 100
def Zfq(g aim p:Int):Int:=mulI g (Zal (aim-Zal p (-2000000) 2000000) (-1000000) 1000000)
theorem Zch(x:Int){lo hi:Int}(h:lo≤hi):lo≤Zal x lo hi∧Zal x lo hi≤hi:=by
 unfold Zal;split
 · omega
 · split
   · omega
   · split<;>omega
theorem Zhi(g aim p:Int):-2147483647≤Zfq g aim p∧Zfq g aim p≤2147483647:=by
 unfold Zfq mulI;exact⟨ofI_lo _,ofI_hi _⟩
theorem hun_mul{s n:Int}(s0:-100≤s)(s1:s≤100)(n0:0≤n)(n1:n≤4000):-400000≤s*n∧s*n≤400000:=by
 have:=mul_bdT (a:=s) (b:=n) (A:=100) (B:=4000) (by omega) (by omega) (by omega) (by omega)
 omega
theorem hunI_bd{s n:Int}(s0:-100≤s)(s1:s≤100)(n0:0≤n)(n1:n≤4000):-400000≤hunI s n∧hunI s n≤400000:=by
 obtain⟨a,b⟩:=hun_mul s0 s1 n0 n1;exact tdiv_bd _ _ _ a b
theorem holdHun_any(s n:Int)(s0:-100≤s)(s1:s≤100)(n0:0≤n)(n1:n≤4000)(w:World):
 Calls prog 218 #[Vi s,Vi n] w fun e w'=>e=.returned (Vi (hunI s n))∧w'=w:=by
 obtain⟨m0,m1⟩:=hun_mul s0 s1 n0 n1
 unfold hunI
 go_enter func218,ntmps218
 go_wp2;go_ret;exact⟨rfl,rfl⟩
theorem refHun_any(s n:Int)(s0:-100≤s)(s1:s≤100)(n0:0≤n)(n1:n≤4000)(w:World):
 Calls prog 142 #[Vi s,Vi n] w fun e w'=>e=.returned (Vi (hunI s n))∧w'=w:=by
 obtain⟨m0,m1⟩:=hun_mul s0 s1 n0 n1
 by_cases h:s<0
 · have m2:-400000≤-s*n:=by rw[Int.neg_mul];omega
   have m3:-s*n≤400000:=by rw[Int.neg_mul];omega
   obtain⟨d0,d1⟩:=tdiv_bd (-s*n) 100 400000 m2 m3
   have e:hunI s n=-((-s*n).tdiv 100):=by unfold hunI;rw[Int.neg_mul,Int.neg_tdiv];omega
   rw[e];clear e
   go_enter func142,ntmps142
   go_wp2;go_ret;exact⟨rfl,rfl⟩
 · unfold hunI
   go_enter func142,ntmps142
   go_wp2;go_ret;exact⟨rfl,rfl⟩
theorem holdPull_any(aim p g:Int)(a0:-100000≤aim)(a1:aim≤100000)(w:World):
 Calls prog 225 #[Vi aim,Vi p,Vi g] w fun e w'=>e=.returned (Vi (Zfq g aim p))∧Below w.heap.size w w':=by
 have c1:=Zay p (-2000000) 2000000;have b1:=Zch p (lo:=-2000000) (hi:=2000000) (by omega);have c2:=Zay (aim-Zal p (-2000000) 2000000) (-1000000) 1000000;have c3:=fixMul_any g (Zal (aim-Zal p (-2000000) 2000000) (-1000000) 1000000);obtain⟨b2,b3⟩:=b1
 unfold Zfq
 generalize mulI g (Zal (aim-Zal p (-2000000) 2000000) (-1000000) 1000000)=m at *;generalize Zal (aim-Zal p (-2000000) 2000000) (-1000000) 1000000=y at *;generalize Zal p (-2000000) 2000000=x at*
 go_enter func225,ntmps225
 go_wp2_with (first
  |((first|go_at_call_of 172 (Vi p)|go_at_call_of 172 (Value.int .i64 p));refine Sm (c1 _) ?_)
  |((first|go_at_call_of 172 (Vi (aim-x))|go_at_call_of 172 (Value.int .i64 (aim-x)));refine Sm (c2 _) ?_)
  |(go_at_call 85;refine Sm (c3 _) ?_))
 go_ret;exact⟨rfl,(Below.refl _ _).drew⟩
theorem refPull_any(g aim k p v n q:Int)(a0:-100000≤aim)(a1:aim≤100000)(w:World):
 Calls prog 143 #[Vi g,Vi aim,.agg #[Vi k,Vi p,Vi v,Vi n,Vi q]] w fun e w'=>e=.returned (Vi (Zfq g aim p))∧Below w.heap.size w w':=by
 have c1:=Zax p (-2000000) 2000000 (by omega);have b1:=Zch p (lo:=-2000000) (hi:=2000000) (by omega);have c2:=Zax (aim-Zal p (-2000000) 2000000) (-1000000) 1000000 (by omega);have c3:=refMul_any g (Zal (aim-Zal p (-2000000) 2000000) (-1000000) 1000000);obtain⟨b2,b3⟩:=b1
 unfold Zfq
 generalize mulI g (Zal (aim-Zal p (-2000000) 2000000) (-1000000) 1000000)=m at *;generalize Zal (aim-Zal p (-2000000) 2000000) (-1000000) 1000000=y at *;generalize Zal p (-2000000) 2000000=x at*
 go_enter func143,ntmps143
 go_wp2_with (first
  |((first|go_at_call_of 94 (Vi p)|go_at_call_of 94 (Value.int .i64 p));refine Sm (c1 _) ?_)
  |((first|go_at_call_of 94 (Vi (aim-x))|go_at_call_of 94 (Value.int .i64 (aim-x)));refine Sm (c2 _) ?_)
  |(go_at_call 198;refine Sm (c3 _) ?_))
 go_ret;exact⟨rfl,Zaa _ _⟩
theorem Zgz(L H U B M:Int)(a z:Option Addr)(al zl ca cz:Nat)(x:Int)(m0:1≤M)(m1:M≤4000)(w:World):
 Calls prog 224 #[.agg #[Vi L,Vi H,Vi U,Vi B,Vi M,.slice a al ca,.slice z zl cz],Vi x] w fun e w'=>e=.returned (Vi (Zal x (-M) M))∧Below w.heap.size w w':=by
 have c1:=Zay x (-M) M;generalize Zal x (-M) M=m at*
 go_enter func224,ntmps224
 go_wp2_with (go_at_call 172;refine Sm (c1 _) ?_);go_ret;exact⟨rfl,Zaa _ _⟩
def ruB(L H U B M:Int):Bool:=betw L (-100000) 100000&&betw H (-100000) 100000&&betw U 0 1000&&betw B 0 65536&&betw M 1 4000
theorem Zdb{L H U B M:Int}(h:ruB L H U B M=true):(-100000≤L∧L≤100000)∧(-100000≤H∧H≤100000)∧(0≤U∧U≤1000)∧(0≤B∧B≤65536)∧1≤M∧M≤4000:=by
 simp only[ruB,Bool.and_eq_true] at h;exact⟨Zas h.1.1.1.1,Zas h.1.1.1.2,Zas h.1.1.2,Zas h.1.2,Zas h.2⟩
theorem inRange_any(L H U B M:Int)(a z:Option Addr)(al zl ca cz:Nat)(w:World):
 Calls prog 228 #[.agg #[Vi L,Vi H,Vi U,Vi B,Vi M,.slice a al ca,.slice z zl cz]] w fun e w'=>e=.returned (.bool (ruB L H U B M))∧Below w.heap.size w w':=by
 have f1:=Zbc L (-100000) 100000;have f2:=Zbc H (-100000) 100000;have f3:=Zbc U 0 1000;have f4:=Zbc B 0 65536;have f5:=Zbc M 1 4000
 unfold ruB
 generalize betw L (-100000) 100000=x1 at *;generalize betw H (-100000) 100000=x2 at *;generalize betw U 0 1000=x3 at *;generalize betw B 0 65536=x4 at *;generalize betw M 1 4000=x5 at*
 rcases(show x1=false∨(x1=true∧x2=false)∨(x1=true∧x2=true∧x3=false)∨(x1=true∧x2=true∧x3=true∧x4=false)∨(x1=true∧x2=true∧x3=true∧x4=true) by cases x1<;>cases x2<;>cases x3<;>cases x4<;>simp) with rfl|⟨rfl,rfl⟩|⟨rfl,rfl,rfl⟩|⟨rfl,rfl,rfl,rfl⟩|⟨rfl,rfl,rfl,rfl⟩
 all_goals
  go_enter func228,ntmps228
  go_wp2_with (first
   |((first|go_at_call_of 76 (Vi L)|go_at_call_of 76 (Value.int .i64 L));refine(f1 _).mono ?_;rintro e w' ⟨rfl,rfl⟩)
   |((first|go_at_call_of 76 (Vi H)|go_at_call_of 76 (Value.int .i64 H));refine(f2 _).mono ?_;rintro e w' ⟨rfl,rfl⟩)
   |((first|go_at_call_of 76 (Vi U)|go_at_call_of 76 (Value.int .i64 U));refine(f3 _).mono ?_;rintro e w' ⟨rfl,rfl⟩)
   |((first|go_at_call_of 76 (Vi B)|go_at_call_of 76 (Value.int .i64 B));refine(f4 _).mono ?_;rintro e w' ⟨rfl,rfl⟩)
   |((first|go_at_call_of 76 (Vi M)|go_at_call_of 76 (Value.int .i64 M));refine(f5 _).mono ?_;rintro e w' ⟨rfl,rfl⟩))
  go_ret;exact⟨by simp,by repeat (first|exact Zaa _ _|refine Zac ?_ (Zaa _ _))⟩
def gaU(z:List Int):Nat→Int
 |0=>0
 |k+1=>Zap [gaU z k,if betw (at0 z k) 0 65536 then 0 else 1]
theorem firstI_two(x y:Int):Zap [x,y]=if x=0 then y else x:=by
 simp only[Zap]
 by_cases h:y=0
 · rw[if_pos h,h]
 · rw[if_neg h]
theorem gaU_step(z:List Int)(k:Nat):gaU z (k+1)=if gaU z k=0 then(if betw (at0 z k) 0 65536 then 0 else 1) else gaU z k:=firstI_two _ _
theorem gaU_stay{z:List Int}{k:Nat}(h:gaU z k≠0):∀m,k≤m→gaU z m=gaU z k:=by
 intro m hm
 induction m with
 |zero=>
  have:k=0:=by omega
  subst this;rfl
 |succ m ih=>
  by_cases e:k=m+1
  · subst e;rfl
  · have i:=ih (by omega);rw[gaU_step,i,if_neg h]
def r0E(L H U B M:Int)(al zl:List Int):Int:=Zap [if ruB L H U B M then 0 else 1,if H<L then 3 else 0,Zdw al zl]
def ruE(L H U B M:Int)(al zl:List Int):Int:=if r0E L H U B M al zl=0 then gaU zl zl.length else r0E L H U B M al zl
def rkE(L H U B M:Int)(al zl:List Int)(k:Nat):Int:=if r0E L H U B M al zl=0 then gaU zl k else r0E L H U B M al zl
theorem rkE_zero(L H U B M:Int)(al zl:List Int):rkE L H U B M al zl 0=r0E L H U B M al zl:=by
 unfold rkE;split
 · rename_i h;rw[h];rfl
 · rfl
theorem rkE_step(L H U B M:Int)(al zl:List Int)(k:Nat):rkE L H U B M al zl (k+1)=Zap [rkE L H U B M al zl k,if betw (at0 zl k) 0 65536 then 0 else 1]:=by
 unfold rkE;split
 · rfl
 · rename_i h;simp only[Zap];rw[if_neg h]
theorem r0E_zero{L H U B M:Int}{al zl:List Int}(h:r0E L H U B M al zl=0):ruB L H U B M=true∧L≤H∧Zdw al zl=0:=by
 unfold r0E at h
 by_cases h1:ruB L H U B M=true
 · rw[if_pos h1] at h
   by_cases h2:H<L
   · rw[if_pos h2] at h;cases h
   · rw[if_neg h2] at h;refine⟨h1,by omega,?_⟩;simp only[Zap] at h;simp at h;exact Classical.byContradiction fun q=>q (h q)
 · rw[if_neg h1] at h;cases h
theorem Zda{L H U B M:Int}{al zl:List Int}(h:ruE L H U B M al zl=0):ruB L H U B M=true∧L≤H∧Zdw al zl=0∧gaU zl zl.length=0:=by
 unfold ruE at h
 split at h
 · rename_i h0;obtain⟨a,b,c⟩:=r0E_zero h0;exact⟨a,b,c,h⟩
 · rename_i h0;exact absurd h h0
theorem Zgj{Q:Nat}{W u u':World}{L H U B M:Int}{a z:Option Addr}{ca cz:Nat}{al zl:List Int}(hb:Below u.heap.size u u')(h:(u.cell? (Ad Q 0)=some (Vi L)∧u.cell? (Ad Q 1)=some (Vi H)∧u.cell? (Ad Q 2)=some (Vi U)∧u.cell? (Ad Q 3)=some (Vi B)∧u.cell? (Ad Q 4)=some (Vi M)∧u.cell? (Ad Q 5)=some (.slice a al.length ca)∧u.cell? (Ad Q 6)=some (.slice z zl.length cz))∧Lst u a al∧Lst u z zl∧Below Q W u):(u'.cell? (Ad Q 0)=some (Vi L)∧u'.cell? (Ad Q 1)=some (Vi H)∧u'.cell? (Ad Q 2)=some (Vi U)∧u'.cell? (Ad Q 3)=some (Vi B)∧u'.cell? (Ad Q 4)=some (Vi M)∧u'.cell? (Ad Q 5)=some (.slice a al.length ca)∧u'.cell? (Ad Q 6)=some (.slice z zl.length cz))∧Lst u' a al∧Lst u' z zl∧Below Q W u':=by
 obtain⟨⟨h0,h1,h2,h3,h4,h5,h6⟩,k1,k2,k3⟩:=h;have hs:=World.block_lt_of_cell? u ⟨Q,0,none⟩ h0;exact⟨⟨cell_later hb h0,cell_later hb h1,cell_later hb h2,cell_later hb h3,cell_later hb h4,cell_later hb h5,cell_later hb h6⟩,k1.later hb,k2.later hb,k3.trans (hb.mono (Nat.le_of_lt hs))⟩
theorem newHR(L H U B M:Int)(a z:Option Addr)(ca cz:Nat)(al zl:List Int)(w:World)(ha:Lst w a al)(hz:Lst w z zl):(fun u=>(u.cell? (Ad w.heap.size 0)=some (Vi L)∧u.cell? (Ad w.heap.size 1)=some (Vi H)∧u.cell? (Ad w.heap.size 2)=some (Vi U)∧u.cell? (Ad w.heap.size 3)=some (Vi B)∧u.cell? (Ad w.heap.size 4)=some (Vi M)∧u.cell? (Ad w.heap.size 5)=some (.slice a al.length ca)∧u.cell? (Ad w.heap.size 6)=some (.slice z zl.length cz))∧Lst u a al∧Lst u z zl∧Below w.heap.size w u) (w.alloc (.cells #[Vi L,Vi H,Vi U,Vi B,Vi M,.slice a al.length ca,.slice z zl.length cz] 107)):=
 ⟨by refine⟨?_,?_,?_,?_,?_,?_,?_⟩<;>simp[go_sem],ha.later (Zaa _ _),hz.later (Zaa _ _),Zaa _ _⟩
theorem Ziy(L H U B M:Int)(a z:Option Addr)(ca cz:Nat)(al zl:List Int)(hm:al.length≤9223372036854775807)(hn:zl.length≤9223372036854775807)(hca:al.length≤ca)(w:World)(ha:Lst w a al)(hz:Lst w z zl):
 Calls prog 184 #[.agg #[Vi L,Vi H,Vi U,Vi B,Vi M,.slice a al.length ca,.slice z zl.length cz]] w fun e w'=>e=.returned (errV (ruE L H U B M al zl))∧Below w.heap.size w w':=by
 have hir:=inRange_any L H U B M a z al.length zl.length ca cz;have hck:=fun u (h1:Lst u a al) (h2:Lst u z zl)=>tcheck_any a z ca cz al zl u hm hn hca h1 h2;have HX:=Zab (newHR L H U B M a z ca cz al zl w ha hz)
 dsimp only at HX
 clear ha hz
 by_cases h1:ruB L H U B M=true
 · rw[h1] at hir
   by_cases h2:H<L
   · have HE:=Zab (show ruE L H U B M al zl=3 by unfold ruE r0E;rw[if_pos h1,if_pos h2];rfl);clear h1 hck
     go_enter func184,ntmps184
     go_wp2_with (first
      |(go_at_call 228;refine Sb (hir _) fun w1 hb1=>?_;have HX:=Zab (Zgj hb1 HX.out);obtain⟨⟨q0,q1,q2,q3,q4,q5,q6⟩,_⟩:=HX.out;clear hb1)
      |(go_at_call 229;refine Sb (hck _ HX.out.2.1 HX.out.2.2.1) fun w2 hb2=>?_;have HX:=Zab (Zgj hb2 HX.out);obtain⟨⟨q0,q1,q2,q3,q4,q5,q6⟩,_⟩:=HX.out;clear hb2))
     go_ret;exact⟨by rw[HE.out];rfl,HX.out.2.2.2⟩
   · by_cases h3:Zdw al zl=0
     · have H0:=Zab (show ruE L H U B M al zl=gaU zl zl.length by unfold ruE;rw[if_pos];unfold r0E;rw[if_pos h1,if_neg h2,h3];rfl);simp only[h3,Zar] at hck;clear h1 h3
       go_enter func184,ntmps184
       go_wp2_with (first
        |(go_at_call 228;refine Sb (hir _) fun w1 hb1=>?_;have HX:=Zab (Zgj hb1 HX.out);obtain⟨⟨q0,q1,q2,q3,q4,q5,q6⟩,_⟩:=HX.out;clear hb1)
        |(go_at_call 229;refine Sb (hck _ HX.out.2.1 HX.out.2.2.1) fun w2 hb2=>?_;have HX:=Zab (Zgj hb2 HX.out);obtain⟨⟨q0,q1,q2,q3,q4,q5,q6⟩,_⟩:=HX.out;clear hb2))
       go_loopw [28] (fun i wr=>∃k:Nat,k≤zl.length∧i=Vi k∧Hid (gaU zl k=0)∧Lst wr z zl∧Below w.heap.size w wr) (fun i _=>zl.length-(intOf i).toNat)
       case atStart=>exact⟨0,Nat.zero_le _,rfl,rfl,HX.out.2.2.1,HX.out.2.2.2⟩
       case round=>
        clear HX q0 q1 q2 q3 q4 q5 q6;obtain⟨k,hk,rfl,hg,hl,hb⟩:=hrel
        by_cases hlt:k<zl.length
        · obtain⟨bz,oz,rfl,hcs⟩:=hl.at (Zca hlt);have hc:=hcs k hlt;have HL:=Zab hl;have HB:=Zab hb;have HT:=Zab (gaU_step zl k);have hfr:=Zcw (at0 zl k) 0 65536
          have j0:(0:Int)≤(k:Int):=by omega
          have j1:(k:Int)<(zl.length:Int):=by omega
          clear hcs hl hb
          by_cases hq:betw (at0 zl k) 0 65536=true
          · have HS:=Zab (show gaU zl (k+1)=0 by rw[HT.out,if_pos hg.out,if_pos hq]);rw[hq] at hfr;clear hq HT;generalize at0 zl k=x at*
            go_wp2_with (go_at_call 76;refine Sb (hfr _) fun w3 hb3=>?_);go_roundw
            case rel=>exact⟨k+1,by omega,by go_num,HS,HL.out.later hb3,Zac HB.out hb3⟩
            case measure=>simp[intOf];omega
          · have hs1:gaU zl (k+1)=1:=by rw[HT.out,if_pos hg.out,if_neg hq]
            have HF:=Zab (show ruE L H U B M al zl=1 by rw[H0.out,gaU_stay (k:=k+1) (by rw[hs1];decide) _ (by omega),hs1]);rw[show betw (at0 zl k) 0 65536=false by simpa using hq] at hfr;clear hq hs1 HT;generalize at0 zl k=x at*
            go_wp2_with (go_at_call 76;refine Sb (hfr _) fun w3 hb3=>?_);go_ret;exact⟨by rw[HF.out];rfl,Zac HB.out hb3⟩
        · have e:k=zl.length:=by omega
          subst e;go_wp2;go_ret;exact⟨by rw[H0.out,hg.out];rfl,hb⟩
     · have HE:=Zab (show ruE L H U B M al zl=Zdw al zl by
        have e:r0E L H U B M al zl=Zdw al zl:=by unfold r0E;rw[if_pos h1,if_neg h2];simp only[Zap];simp[h3]
        unfold ruE;rw[e,if_neg h3])
       rw[HE.out];simp only[Zbg h3] at hck⊢;clear h1 h3 HE;generalize Zdw al zl=E at*
       go_enter func184,ntmps184
       go_wp2_with (first
        |(go_at_call 228;refine Sb (hir _) fun w1 hb1=>?_;have HX:=Zab (Zgj hb1 HX.out);obtain⟨⟨q0,q1,q2,q3,q4,q5,q6⟩,_⟩:=HX.out;clear hb1)
        |(go_at_call 229;refine Sb (hck _ HX.out.2.1 HX.out.2.2.1) fun w2 hb2=>?_;have HX:=Zab (Zgj hb2 HX.out);obtain⟨⟨q0,q1,q2,q3,q4,q5,q6⟩,_⟩:=HX.out;clear hb2))
       go_ret;exact⟨rfl,HX.out.2.2.2⟩
 · have HE:=Zab (show ruE L H U B M al zl=1 by unfold ruE r0E;rw[if_neg h1];rfl);rw[show ruB L H U B M=false by simpa using h1] at hir;clear h1 hck
   go_enter func184,ntmps184
   go_wp2_with (first
    |(go_at_call 228;refine Sb (hir _) fun w1 hb1=>?_;have HX:=Zab (Zgj hb1 HX.out);obtain⟨⟨q0,q1,q2,q3,q4,q5,q6⟩,_⟩:=HX.out;clear hb1)
    |(go_at_call 229;refine Sb (hck _ HX.out.2.1 HX.out.2.2.1) fun w2 hb2=>?_;have HX:=Zab (Zgj hb2 HX.out);obtain⟨⟨q0,q1,q2,q3,q4,q5,q6⟩,_⟩:=HX.out;clear hb2))
   go_ret;exact⟨by rw[HE.out];rfl,HX.out.2.2.2⟩
end Go.Proofs.YtnfdfiholcelaaaGreatDoor
