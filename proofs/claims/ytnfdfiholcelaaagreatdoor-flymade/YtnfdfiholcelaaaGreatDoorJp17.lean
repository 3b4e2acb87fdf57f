
import Derived.Test.YtnfdfiholcelaaaGreatDoorJp16
set_option maxRecDepth 100000
set_option maxHeartbeats 20000000
namespace Go.Proofs.YtnfdfiholcelaaaGreatDoor
open Go.RowKit Plain Tryz
variable {B D K V Y ca k n:Nat}{R T c l m v z:Int}{X u u' w w':World}{a:Option Addr}{b f s:Nat→Int}{o t:Nat→Bool}{y:Bool}
theorem Y3{e:TypeId}{size:Nat}{v:Value}{xs:List Value}(h:w.ownsRow B e size v n xs)(hb:Bw w w'):w'.ownsRow B e size v n xs:=by
 refine⟨h.1,?_⟩
 rcases h.2 with h|⟨g,cap,cur,h1,h2,h3,h4⟩
 · exact .inl h
 · refine .inr ⟨g,cap,cur,h1,h2,?_,h4⟩;rw[hb.block g ?_]
   · exact h3
   · rcases Nat.lt_or_ge g w.heap.size with h|h
     · exact h
     · rw[Array.getElem?_eq_none h] at h3;cases h3
def NewV(K:Nat)(w:World)(V:Nat):Prop:=Kc w V 0 (Vi 0)∧Kc w V 1 (Vi 0)∧w.frozen? (Ad V 0)=false∧w.frozen? (Ad V 1)=false∧K<V
theorem NewV.lt(h:NewV K w V):K<V:=h.2.2.2.2
theorem newV(hK:K<X.heap.size)(hb:Below (X.alloc (.cells #[Vi 0,Vi 0] 187)).heap.size (X.alloc (.cells #[Vi 0,Vi 0] 187)) w'):NewV K w' X.heap.size:=by
 have hl:X.heap.size<(X.alloc (.cells #[Vi 0,Vi 0] 187)).heap.size:=by simp[go_sem]
 exact⟨cell_later hb (by simp[go_sem]),cell_later hb (by simp[go_sem]),(hb.frozen (p:=⟨X.heap.size,0,none⟩) hl).trans (by simp[go_sem]),(hb.frozen (p:=⟨X.heap.size,1,none⟩) hl).trans (by simp[go_sem]),hK⟩
theorem newVd(hK:K<X.heap.size)(hb:Below (X.alloc (.cells #[Vi 0,Vi 0] 187)).drew.heap.size (X.alloc (.cells #[Vi 0,Vi 0] 187)).drew w'):NewV K w' X.heap.size:=newV hK ((Below.refl _ _).drew.trans hb)
theorem laterV(hb:Bw w w')(h:NewV K w V):NewV K w' V:=by
 have hl:=World.block_lt_of_cell? w ⟨V,0,none⟩ h.1;exact⟨cell_later hb h.1,cell_later hb h.2.1,(hb.frozen (p:=⟨V,0,none⟩) hl).trans h.2.2.1,(hb.frozen (p:=⟨V,1,none⟩) hl).trans h.2.2.2.1,h.2.2.2.2⟩
theorem sampE_of(h:Z5 b l m c t s=0):Xb t s 3=true:=by
 unfold Z5 at h
 split at h
 · split at h
   · split at h
     · assumption
     · omega
   · omega
 · omega
theorem lastE_of(h:Z5 b l m c t s=0):-1000000≤l∧l≤1000000:=by
 unfold Z5 at h
 split at h
 · split at h
   · rename_i h2
     unfold Yg at h2
     split at h2
     · rename_i h3;exact Ug (by simp only[Bool.and_eq_true] at h3;exact h3.2)
     · omega
   · omega
 · omega
theorem bankE_of(h:Z5 b l m c t s=0):∀k,k<3→0≤b k∧b k≤10:=by
 unfold Z5 at h
 split at h
 · split at h
   · rename_i h2
     unfold Yg at h2
     split at h2
     · rename_i h3;exact okU_true (by simp only[Bool.and_eq_true] at h3;exact h3.1)
     · omega
   · omega
 · omega
theorem ruleE_of(h:Z5 b l m c t s=0):(0≤m∧m≤1000000)∧1≤c∧c≤10:=by
 unfold Z5 at h
 split at h
 · rename_i h2
   unfold Z7 at h2
   split at h2
   · rename_i h3;exact ruleB_true h3
   · omega
 · omega
theorem keepH(hb:Bw u u')(h:(Kc u w.heap.size 0 (Vi (b 0))∧Kc u w.heap.size 1 (Vi (b 1))∧Kc u w.heap.size 2 (Vi (b 2))∧Kc u w.heap.size 3 (.bool (o 0))∧Kc u w.heap.size 4 (.bool (o 1))∧Kc u w.heap.size 5 (.bool (o 2))∧Kc u w.heap.size 6 (Vi l))∧(Kc u (w.heap.size+1+1) 0 (.bool (t 0))∧Kc u (w.heap.size+1+1) 1 (Vi (s 0))∧Kc u (w.heap.size+1+1) 2 (.bool (t 1))∧Kc u (w.heap.size+1+1) 3 (Vi (s 1))∧Kc u (w.heap.size+1+1) 4 (.bool (t 2))∧Kc u (w.heap.size+1+1) 5 (Vi (s 2)))∧StAt w u b o l m c t s):
 (Kc u' w.heap.size 0 (Vi (b 0))∧Kc u' w.heap.size 1 (Vi (b 1))∧Kc u' w.heap.size 2 (Vi (b 2))∧Kc u' w.heap.size 3 (.bool (o 0))∧Kc u' w.heap.size 4 (.bool (o 1))∧Kc u' w.heap.size 5 (.bool (o 2))∧Kc u' w.heap.size 6 (Vi l))∧(Kc u' (w.heap.size+1+1) 0 (.bool (t 0))∧Kc u' (w.heap.size+1+1) 1 (Vi (s 0))∧Kc u' (w.heap.size+1+1) 2 (.bool (t 1))∧Kc u' (w.heap.size+1+1) 3 (Vi (s 1))∧Kc u' (w.heap.size+1+1) 4 (.bool (t 2))∧Kc u' (w.heap.size+1+1) 5 (Vi (s 2)))∧StAt w u' b o l m c t s:=
 ⟨BankAt.later h.1 hb,SampAt.later h.2.1 hb,h.2.2.later hb⟩
theorem keepSet{p q:Value}(hV:w.heap.size+1+1+1+1<V)(h:(Kc u w.heap.size 0 (Vi (b 0))∧Kc u w.heap.size 1 (Vi (b 1))∧Kc u w.heap.size 2 (Vi (b 2))∧Kc u w.heap.size 3 (.bool (o 0))∧Kc u w.heap.size 4 (.bool (o 1))∧Kc u w.heap.size 5 (.bool (o 2))∧Kc u w.heap.size 6 (Vi l))∧(Kc u (w.heap.size+1+1) 0 (.bool (t 0))∧Kc u (w.heap.size+1+1) 1 (Vi (s 0))∧Kc u (w.heap.size+1+1) 2 (.bool (t 1))∧Kc u (w.heap.size+1+1) 3 (Vi (s 1))∧Kc u (w.heap.size+1+1) 4 (.bool (t 2))∧Kc u (w.heap.size+1+1) 5 (Vi (s 2)))∧StAt w u b o l m c t s):
 (((u.setCell (Ad V 0) p).setCell (Ad V 1) q).cell? (Ad w.heap.size 0)=some (Vi (b 0))∧((u.setCell (Ad V 0) p).setCell (Ad V 1) q).cell? (Ad w.heap.size 1)=some (Vi (b 1))∧((u.setCell (Ad V 0) p).setCell (Ad V 1) q).cell? (Ad w.heap.size 2)=some (Vi (b 2))∧((u.setCell (Ad V 0) p).setCell (Ad V 1) q).cell? (Ad w.heap.size 3)=some (.bool (o 0))∧((u.setCell (Ad V 0) p).setCell (Ad V 1) q).cell? (Ad w.heap.size 4)=some (.bool (o 1))∧((u.setCell (Ad V 0) p).setCell (Ad V 1) q).cell? (Ad w.heap.size 5)=some (.bool (o 2))∧((u.setCell (Ad V 0) p).setCell (Ad V 1) q).cell? (Ad w.heap.size 6)=some (Vi l))∧(((u.setCell (Ad V 0) p).setCell (Ad V 1) q).cell? (Ad (w.heap.size+1+1) 0)=some (.bool (t 0))∧((u.setCell (Ad V 0) p).setCell (Ad V 1) q).cell? (Ad (w.heap.size+1+1) 1)=some (Vi (s 0))∧((u.setCell (Ad V 0) p).setCell (Ad V 1) q).cell? (Ad (w.heap.size+1+1) 2)=some (.bool (t 1))∧((u.setCell (Ad V 0) p).setCell (Ad V 1) q).cell? (Ad (w.heap.size+1+1) 3)=some (Vi (s 1))∧((u.setCell (Ad V 0) p).setCell (Ad V 1) q).cell? (Ad (w.heap.size+1+1) 4)=some (.bool (t 2))∧((u.setCell (Ad V 0) p).setCell (Ad V 1) q).cell? (Ad (w.heap.size+1+1) 5)=some (Vi (s 2)))∧StAt w ((u.setCell (Ad V 0) p).setCell (Ad V 1) q) b o l m c t s:=
 ⟨BankAt.set (BankAt.set h.1 (by omega)) (by omega),SampAt.set (SampAt.set h.2.1 (by omega)) (by omega),(h.2.2.setElse hV _).setElse hV _⟩
theorem keepK(hb:Bw u u')(h:(Kc u (w.heap.size+1) 0 (Vi m)∧Kc u (w.heap.size+1) 1 (Vi c))∧Kc u V 0 (Vi v)∧Kc u Y 0 (.bool y)∧Kc u Y 1 (Vi z)):(Kc u' (w.heap.size+1) 0 (Vi m)∧Kc u' (w.heap.size+1) 1 (Vi c))∧Kc u' V 0 (Vi v)∧Kc u' Y 0 (.bool y)∧Kc u' Y 1 (Vi z):=
 ⟨⟨cell_later hb h.1.1,cell_later hb h.1.2⟩,cell_later hb h.2.1,cell_later hb h.2.2.1,cell_later hb h.2.2.2⟩
theorem keepKs{j:Nat}{x:Value}(hV:w.heap.size≠V)(hY:w.heap.size≠Y)(h:(Kc u (w.heap.size+1) 0 (Vi m)∧Kc u (w.heap.size+1) 1 (Vi c))∧Kc u V 0 (Vi v)∧Kc u Y 0 (.bool y)∧Kc u Y 1 (Vi z)):((u.setCell (Ad w.heap.size j) x).cell? (Ad (w.heap.size+1) 0)=some (Vi m)∧(u.setCell (Ad w.heap.size j) x).cell? (Ad (w.heap.size+1) 1)=some (Vi c))∧(u.setCell (Ad w.heap.size j) x).cell? (Ad V 0)=some (Vi v)∧(u.setCell (Ad w.heap.size j) x).cell? (Ad Y 0)=some (.bool y)∧(u.setCell (Ad w.heap.size j) x).cell? (Ad Y 1)=some (Vi z):=
 ⟨⟨Zi h.1.1 (Yh (by omega)),Zi h.1.2 (Yh (by omega))⟩,Zi h.2.1 (Yh hV),Zi h.2.2.1 (Yh hY),Zi h.2.2.2 (Yh hY)⟩
theorem step_ok(b:Nat→Int)(o:Nat→Bool)(l m c:Int)(t:Nat→Bool)(s:Nat→Int)(he:Z5 b l m c t s=0)(w:World):
 Calls prog 157 #[.agg (Qap b o l),.agg #[Vi m,Vi c],.agg (Qav t s)] w
  (Rt w (.tuple #[.agg #[Vi (nbI t o s b (votI t o s l) m 0),Vi (nbI t o s b (votI t o s l) m 1),Vi (nbI t o s b (votI t o s l) m 2),.bool (noB t o s b (votI t o s l) m c 0),.bool (noB t o s b (votI t o s l) m c 1),.bool (noB t o s b (votI t o s l) m c 2),Vi (votI t o s l)],.agg #[Vi (votI t o s l),Vi (Zv t o 3)],.nilIface])):=by
 have HX:=Za (st_new w b o l m c t s);have hck:=checkStep_any b o l m c t s;rw[he,Z2] at hck
 go_enter func157,ntmps157
 go_upto_region 4 with(go_at_call 210;refine Sb (hck _) fun w1 hb1=>?_;have HX:=Za (HX.out.later hb1);clear hb1);have st0:=HX.out;have S0:(Kc w1 w.heap.size 0 (Vi (b 0))∧Kc w1 w.heap.size 1 (Vi (b 1))∧Kc w1 w.heap.size 2 (Vi (b 2))∧Kc w1 w.heap.size 3 (.bool (o 0))∧Kc w1 w.heap.size 4 (.bool (o 1))∧Kc w1 w.heap.size 5 (.bool (o 2))∧Kc w1 w.heap.size 6 (Vi l))∧(Kc w1 (w.heap.size+1+1) 0 (.bool (t 0))∧Kc w1 (w.heap.size+1+1) 1 (Vi (s 0))∧Kc w1 (w.heap.size+1+1) 2 (.bool (t 1))∧Kc w1 (w.heap.size+1+1) 3 (Vi (s 1))∧Kc w1 (w.heap.size+1+1) 4 (.bool (t 2))∧Kc w1 (w.heap.size+1+1) 5 (Vi (s 2)))∧StAt w w1 b o l m c t s:=⟨st0.1.1,st0.2.2.1,st0⟩;have LT0:=Za st0.lt;clear st0 HX;have fit:=fit_of (o:=o) (sampE_of he);have hcn:=counting_any b o l t s;have hse:=settle_any (risL (cntL t o s 3)) l
 have hlen:(risL (cntL t o s 3)).length≤3:=by rw[risL_len];exact cntL_len t o s 3
 have hbd:=cntL_bd fit;have EV:=Za (set_vot l fit)
 have EN:Hid (((risL (cntL t o s 3)).length:Int)=Zv t o 3):=by rw[risL_len];exact many_len t o s 3
 have Z:=Za S0
 go_cut [10] (fun p w'=>∃V,p=.pointer (some (Ad V 0))∧StAt w w' b o l m c t s∧RuleAt w' V (votI t o s l) (Zv t o 3)∧w.heap.size+1+1+1+1<V)
 case first=>
  generalize risL (cntL t o s 3)=zs at*
  go_region_held3 (fun u=>(Kc u w.heap.size 0 (Vi (b 0))∧Kc u w.heap.size 1 (Vi (b 1))∧Kc u w.heap.size 2 (Vi (b 2))∧Kc u w.heap.size 3 (.bool (o 0))∧Kc u w.heap.size 4 (.bool (o 1))∧Kc u w.heap.size 5 (.bool (o 2))∧Kc u w.heap.size 6 (Vi l))∧(Kc u (w.heap.size+1+1) 0 (.bool (t 0))∧Kc u (w.heap.size+1+1) 1 (Vi (s 0))∧Kc u (w.heap.size+1+1) 2 (.bool (t 1))∧Kc u (w.heap.size+1+1) 3 (Vi (s 1))∧Kc u (w.heap.size+1+1) 4 (.bool (t 2))∧Kc u (w.heap.size+1+1) 5 (Vi (s 2)))∧StAt w u b o l m c t s)
   (first
    |(with_reducible assumption)
    |(with_reducible refine keepH (Zb _ _) ?_;with_reducible assumption)
    |(with_reducible apply keepH;with_reducible assumption;with_reducible assumption)
    |(with_reducible refine keepH (Zb _ _) KS.out)
    |(with_reducible refine keepSet (NewV.lt NV.out) KS.out)
    |(refine keepH ?_ Z.out;exact(Zb _ _).drew)
    |(refine keepH ?_ Z.out;exact(Below.refl _ _).drew))
   (first
    |(go_at_call 212;refine(hcn _).mono ?_;rintro e w' ⟨⟨v,rfl,hown⟩,hb⟩;have LTW:=Za (show w.heap.size+1+1+1+1<w'.heap.size from Nat.lt_of_lt_of_le LT0.out (Nat.le_trans (by simp[go_sem]) hb.size));have KS:=Za (keepH hb (by with_reducible assumption));(first|(have NV:=Za (newV (K:=w.heap.size+1+1+1+1) (by first|exact LTW.out|exact LT0.out) hb);obtain⟨r0,r1,f0,f1,_⟩:=NV.out)|(have NV:=Za (newVd (K:=w.heap.size+1+1+1+1) (by first|exact LTW.out|exact LT0.out) hb);obtain⟨r0,r1,f0,f1,_⟩:=NV.out)|(have NV:=Za (laterV hb NV.out);obtain⟨r0,r1,f0,f1,_⟩:=NV.out)|skip))
    |(go_at_call 211;refine Sb (hse _ _ _ hlen hbd (by first|(with_reducible assumption)|exact Y3 (by with_reducible assumption) (Zb _ _))) fun w' hb=>?_;have KS:=Za (keepH hb (by with_reducible assumption));(first|(have NV:=Za (newV (K:=w.heap.size+1+1+1+1) (by first|exact LTW.out|exact LT0.out) hb);obtain⟨r0,r1,f0,f1,_⟩:=NV.out)|(have NV:=Za (newVd (K:=w.heap.size+1+1+1+1) (by first|exact LTW.out|exact LT0.out) hb);obtain⟨r0,r1,f0,f1,_⟩:=NV.out)|(have NV:=Za (laterV hb NV.out);obtain⟨r0,r1,f0,f1,_⟩:=NV.out)|skip)))
  all_goals
   rename_i hH
   go_wp2_with fail
   go_meet
   (case rel=>
    first
     |exact⟨_,rfl,hH.2.2,by rw[←EV.out,←EN.out];exact⟨by simp[go_sem],by simp[go_sem]⟩,KS.out.2.2.lt⟩
     |exact⟨_,rfl,hH.2.2,by rw[←EV.out,←EN.out];exact RuleAt.setBoth ⟨r0,r1⟩ _ _,NewV.lt NV.out⟩)
 case rest=>
  obtain⟨V,rfl,hst,hvt,hV⟩:=hcut;rename World=>wb;have vb:=votI_bd (l:=l) fit (lastE_of he).1 (lastE_of he).2;have mb:=ruleE_of he;have Hb:=Za (bankE_of he);obtain⟨v,HVE⟩:∃v,Hid (votI t o s l=v):=⟨_,rfl⟩;obtain⟨n,HNE⟩:∃n,Hid (Zv t o 3=n):=⟨_,rfl⟩;rw[HVE.out] at hvt vb;rw[HNE.out] at hvt;have ST:=Za hst;have RV:=Za hvt;obtain⟨p0,p1,p2,p3,p4,p5⟩:=hst.2.2.1;clear hst hvt hcn hse hlen hbd EV EN Z S0 LT0 fit he hck;have LT:=Za hV;go_wp2
  go_loopw [29] (fun i wr=>∃k:Nat,k≤3∧i=Vi k∧StAt w wr (mixI k (nbI t o s b v m) b) (mixB k (noB t o s b v m c) o) l m c t s∧RuleAt wr V v n) (fun i _=>3-(intOf i).toNat)
  case atStart=>exact⟨0,by omega,rfl,by rw[mixI_zero,mixB_zero];exact ST.out,RV.out⟩
  case round=>
   clear ST RV p0 p1 p2 p3 p4 p5;obtain⟨k,hk,rfl,hst,hvt⟩:=hrel
   by_cases hlt:k<3
   · have hix:=idxS t s k hlt;have c3:∀ob,(wr.alloc ob).cell? (Ad w.heap.size (3+k))=some (.bool (o k)):=fun ob=>cell_later (Zb wr ob) (by have:=hst.1.1.out k hlt;rwa[mixB_at] at this)
     have i0:(0:Int)≤(k:Int):=by omega
     have i1:(k:Int)<3:=by omega
     have bd:=Hb.out k hlt;have HN:=Za (show nbI t o s b v m k=(if o k then b k else badI (b k) (fineB (t k) (s k) v m))∧noB t o s b v m c k=(if o k then true else outB (b k) (fineB (t k) (s k) v m) c) from⟨rfl,rfl⟩);have STK:=Za hst;have RK:=Za hvt
     cases h2:o k
     · rw[h2] at c3;rw[h2] at HN;have STU:=Za (hst.later (Zb wr (.cells #[.bool (t k),Vi (s k)] 131)));have RU:=Za (hvt.later (Zb wr (.cells #[.bool (t k),Vi (s k)] 131)));have YU:=Za (show(wr.alloc (.cells #[.bool (t k),Vi (s k)] 131)).cell? (Ad wr.heap.size 0)=some (.bool (t k))∧(wr.alloc (.cells #[.bool (t k),Vi (s k)] 131)).cell? (Ad wr.heap.size 1)=some (Vi (s k)) from⟨by simp[go_sem],by simp[go_sem]⟩);have LY:=Za hst.lt;clear hst hvt STK RK
       go_upto_region 9 with fail;generalize (wr.alloc (.cells #[.bool (t k),Vi (s k)] 131))=u0 at *;generalize wr.heap.size=Y at *;clear c3;have c4:=STU.out.1.1.bad k hlt;rw[mixI_at] at c4;have c3:=STU.out.1.1.out k hlt;have z1:=STU.out.1.2.1 k (by omega);have z2:=STU.out.1.2.1 (3+k) (by omega);have hfn:=isFine_any (t k) (s k) v m (by omega) (by omega) mb.1.1 mb.1.2;have hjd:=judge_any (b k) c (fineB (t k) (s k) v m) bd.1 bd.2;have S0:(Kc u0 (w.heap.size+1) 0 (Vi m)∧Kc u0 (w.heap.size+1) 1 (Vi c))∧Kc u0 V 0 (Vi v)∧Kc u0 Y 0 (.bool (t k))∧Kc u0 Y 1 (Vi (s k)):=⟨STU.out.2.1,RU.out.1,YU.out.1,YU.out.2⟩;have Z:=Za S0
       have nV:w.heap.size≠V:=by have:=LT.out;omega
       have nY:w.heap.size≠Y:=by have:=LY.out;omega
       have NVY:=Za (And.intro nV nY);obtain⟨f,HF⟩:∃f,Hid (fineB (t k) (s k) v m=f):=⟨_,rfl⟩;rw[HF.out] at hfn hjd HN;obtain⟨pb,HPB⟩:∃pb,Hid (badI (b k) f=pb):=⟨_,rfl⟩;obtain⟨po,HPO⟩:∃po,Hid (outB (b k) f c=po):=⟨_,rfl⟩;rw[HPB.out,HPO.out] at hjd HN;clear nV nY YU LY;refine wp_region_held_drew (S:=fun u=>(Kc u (w.heap.size+1) 0 (Vi m)∧Kc u (w.heap.size+1) 1 (Vi c))∧Kc u V 0 (Vi v)∧Kc u Y 0 (.bool (t k))∧Kc u Y 1 (Vi (s k))) (by kernel_rfl) (keepK (Below.refl _ _).drew Z.out) (fun hHeld=>?_);clear S0;refine Tp 0 (by assumption) ?_;(try simp only[Act.put]);refine Tp 1 (by assumption) ?_;(try simp only[Act.put]);refine Tp 2 (by assumption) ?_;(try simp only[Act.put]);refine Tp 3 (by assumption) ?_;(try simp only[Act.put]);refine Tp 4 (by assumption) ?_;(try simp only[Act.put]);refine Tp 6 (by assumption) ?_;(try simp only[Act.put]);refine Tp 7 (by assumption) ?_;(try simp only[Act.put]);refine Tp 8 (by assumption) ?_;(try simp only[Act.put]);refine Tp 9 (by assumption) ?_;(try simp only[Act.put]);refine Tp 10 (by assumption) ?_;(try simp only[Act.put]);refine Tp 12 (by assumption) ?_;(try simp only[Act.put]);refine Tp 13 (by assumption) ?_;(try simp only[Act.put]);refine Tp 18 (by assumption) ?_;(try simp only[Act.put]);refine Tp 21 (by assumption) ?_;(try simp only[Act.put]);refine Rb 5 11 (fun K hK=>?_) (fun K hK=>?_)
       · go_simp;refine hK.out _ _ (keepK (Below.refl _ _).drew Z.out) (fun hHeld=>?_);clear hK K;refine Ra 11 (fun K hK=>?_);go_simp;refine Sb (hfn _) fun w' hb=>?_;have hb0:=Za (show Bw u0 w' by first|exact hb|exact(Below.refl _ _).drew.trans hb);have KS:=Za (keepK hb0.out Z.out);have c4:=cell_later hb0.out c4;have c3:=cell_later hb0.out c3;have z1:=(STU.out.1.2.later hb0.out).1 k (by omega);have z2:=(STU.out.1.2.later hb0.out).1 (3+k) (by omega);go_wp2_with fail;refine hK.out _ _ KS.out (fun hHeld=>?_);clear hK K;refine Ra 14 (fun K hK=>?_);go_simp;refine(hjd _).mono ?_;rintro e w'' ⟨rfl,hq⟩;have hq:=hq.symm;subst hq;go_wp2_with fail;refine hK.out _ _ KS.out (fun hHeld=>?_);clear hK K;refine Tp 15 (by assumption) ?_;(try simp only[Act.put]);refine Tp 16 (by assumption) ?_;(try simp only[Act.put]);refine Tp 17 (by assumption) ?_;(try simp only[Act.put]);refine Tp 19 (by assumption) ?_;(try simp only[Act.put]);refine Ra 20 (fun K hK=>?_);go_simp;refine hK.out _ _ (keepKs NVY.out.1 NVY.out.2 KS.out) (fun hHeld=>?_);clear hK K;refine Tp 22 (by assumption) ?_;(try simp only[Act.put]);refine Ra 23 (fun K hK=>?_);go_simp;refine hK.out _ _ (keepKs NVY.out.1 NVY.out.2 (keepKs NVY.out.1 NVY.out.2 KS.out)) (fun hHeld=>?_);clear hK K;refine Dn ?_;go_wp2;go_roundw
         case rel=>
          refine⟨k+1,by omega,by go_num,?_,?_⟩
          · rw[W4,W5,show nbI t o s b v m k=pb from HN.out.1,show noB t o s b v m c k=po from HN.out.2];exact((STU.out.later hb0.out).setBad k hlt _).setOut k hlt _
          · exact((RU.out.later hb0.out).set NVY.out.1).set NVY.out.1
         case measure=>simp[intOf];omega
       · go_simp;refine Sb (hfn _) fun w' hb=>?_;have hb0:=Za (show Bw u0 w' by first|exact hb|exact(Below.refl _ _).drew.trans hb);have KS:=Za (keepK hb0.out Z.out);have c4:=cell_later hb0.out c4;have c3:=cell_later hb0.out c3;have z1:=(STU.out.1.2.later hb0.out).1 k (by omega);have z2:=(STU.out.1.2.later hb0.out).1 (3+k) (by omega);go_wp2_with fail;refine hK.out _ _ KS.out (fun hHeld=>?_);clear hK K;refine Ra 5 (fun K hK=>?_);go_simp;refine hK.out _ _ KS.out (fun hHeld=>?_);clear hK K;refine Ra 14 (fun K hK=>?_);go_simp;refine(hjd _).mono ?_;rintro e w'' ⟨rfl,hq⟩;have hq:=hq.symm;subst hq;go_wp2_with fail;refine hK.out _ _ KS.out (fun hHeld=>?_);clear hK K;refine Tp 15 (by assumption) ?_;(try simp only[Act.put]);refine Tp 16 (by assumption) ?_;(try simp only[Act.put]);refine Tp 17 (by assumption) ?_;(try simp only[Act.put]);refine Tp 19 (by assumption) ?_;(try simp only[Act.put]);refine Ra 20 (fun K hK=>?_);go_simp;refine hK.out _ _ (keepKs NVY.out.1 NVY.out.2 KS.out) (fun hHeld=>?_);clear hK K;refine Tp 22 (by assumption) ?_;(try simp only[Act.put]);refine Ra 23 (fun K hK=>?_);go_simp;refine hK.out _ _ (keepKs NVY.out.1 NVY.out.2 (keepKs NVY.out.1 NVY.out.2 KS.out)) (fun hHeld=>?_);clear hK K;refine Dn ?_;go_wp2;go_roundw
         case rel=>
          refine⟨k+1,by omega,by go_num,?_,?_⟩
          · rw[W4,W5,show nbI t o s b v m k=pb from HN.out.1,show noB t o s b v m c k=po from HN.out.2];exact((STU.out.later hb0.out).setBad k hlt _).setOut k hlt _
          · exact((RU.out.later hb0.out).set NVY.out.1).set NVY.out.1
         case measure=>simp[intOf];omega
     · rw[h2] at c3;rw[h2] at HN;have hbad:Hid (nbI t o s b v m k=mixI k (nbI t o s b v m) b k):=HN.out.1.trans (by rw[mixI_at];rfl);have hout:Hid (noB t o s b v m c k=mixB k (noB t o s b v m c) o k):=HN.out.2.trans (by rw[mixB_at,h2];rfl);clear hst hvt;go_wp2;go_roundw
       case rel=>
        refine⟨k+1,by omega,by go_num,?_,RK.out.later (Zb _ _)⟩;rw[W4,W5,hbad.out,hout.out,updI_same,updB_same];exact STK.out.later (Zb _ _)
       case measure=>simp[intOf];omega
   · have e:k=3:=by omega
     subst e;have Ha:=Za (hst.setLast v);have q6:=hst.1.1.2.2.2.2.2.2;have z6:=hst.1.2.1 6 (by omega);have vt:=hvt.1
     have nV:w.heap.size≠V:=by have:=LT.out;omega
     have Hc:=Za (hvt.set (q:=6) (v:=Vi v) nV);clear hst hvt nV
     go_upto_region 12 with fail;generalize hw7:(World.setCell _ _ (Vi v))=w7 at *;clear hw7 q6 z6 vt;obtain⟨⟨⟨q0,q1,q2,q3,q4,q5,q6⟩,_⟩,_,_,⟨⟨s0,s1,s2,s3,s4,s5,s6⟩,s7,_⟩,⟨⟨p0,p1⟩,p2,_⟩,hB⟩:=Ha.out;have f0:=s7 0 (by omega);have f1:=s7 1 (by omega);have f2:=s7 2 (by omega);have f3:=s7 3 (by omega);have f4:=s7 4 (by omega);have f5:=s7 5 (by omega);have f6:=s7 6 (by omega);have g0:=p2 0 (by omega);have g1:=p2 1 (by omega);obtain⟨v0,v1⟩:=Hc.out;clear hB s7 p2;rw[show mixI 3 (nbI t o s b v m) b 0=nbI t o s b v m 0 from rfl] at q0;rw[show mixI 3 (nbI t o s b v m) b 1=nbI t o s b v m 1 from rfl] at q1;rw[show mixI 3 (nbI t o s b v m) b 2=nbI t o s b v m 2 from rfl] at q2;rw[show mixB 3 (noB t o s b v m c) o 0=noB t o s b v m c 0 from rfl] at q3;rw[show mixB 3 (noB t o s b v m c) o 1=noB t o s b v m c 1 from rfl] at q4;rw[show mixB 3 (noB t o s b v m c) o 2=noB t o s b v m c 2 from rfl] at q5;rw[show zI 0=0 from rfl] at s0;rw[show zI 1=0 from rfl] at s1;rw[show zI 2=0 from rfl] at s2;rw[show zB 0=false from rfl] at s3;rw[show zB 1=false from rfl] at s4;rw[show zB 2=false from rfl] at s5;obtain⟨y0,y1,y2,x0,x1,x2,EY⟩:∃y0 y1 y2 x0 x1 x2,Hid (nbI t o s b v m 0=y0∧nbI t o s b v m 1=y1∧nbI t o s b v m 2=y2∧noB t o s b v m c 0=x0∧noB t o s b v m c 1=x1∧noB t o s b v m c 2=x2):=⟨_,_,_,_,_,_,rfl,rfl,rfl,rfl,rfl,rfl⟩;rw[EY.out.1] at q0;rw[EY.out.2.1] at q1;rw[EY.out.2.2.1] at q2;rw[EY.out.2.2.2.1] at q3;rw[EY.out.2.2.2.2.1] at q4;rw[EY.out.2.2.2.2.2] at q5;have lt:=LT.out
     have n1:¬(w.heap.size+1+1+1=V):=by omega
     have n2:¬(V=w.heap.size+1+1+1):=by omega
     have n3:¬(w.heap.size+1+1+1+1=V):=by omega
     have n4:¬(V=w.heap.size+1+1+1+1):=by omega
     clear lt
     go_region
     all_goals
      go_wp2;have an:=Za (ansW_at Ha.out.2.2.2.1.1 Ha.out.2.2.2.2.1.1 (by omega) y0 y1 y2 x0 x1 x2 v v n);have bl:=Za (ansW_below Ha.out.2.2.2.2.2 (B:=w.heap.size+1+1+1) (C:=w.heap.size+1+1+1+1) (by omega) (by omega) y0 y1 y2 x0 x1 x2 v v n)
      change bodyPost _ _ _ Exit.ret _ (ansW w7 (w.heap.size+1+1+1) (w.heap.size+1+1+1+1) y0 y1 y2 x0 x1 x2 v v n).drew
      generalize (ansW w7 (w.heap.size+1+1+1) (w.heap.size+1+1+1+1) y0 y1 y2 x0 x1 x2 v v n)=w9 at *;obtain⟨⟨c0,c1,c2,c3,c4,c5,c6⟩,d0,d1⟩:=an.out;exact bodyPost_ret (v:=.tuple #[.agg #[Vi y0,Vi y1,Vi y2,.bool x0,.bool x1,.bool x2,Vi v],.agg #[Vi v,Vi n],.nilIface]) (by simp[results,results157,go_sem,c0,c1,c2,c3,c4,c5,c6,d0,d1]) rfl ⟨by rw[HVE.out,HNE.out,EY.out.1,EY.out.2.1,EY.out.2.2.1,EY.out.2.2.2.1,EY.out.2.2.2.2.1,EY.out.2.2.2.2.2],bl.out.drew⟩
theorem infoTaker:(prog.info? 345).map (fun i=>(i.zero,i.size,i.bytes))=some (some .nilIface,1,16):=by kernel_rfl
theorem new_cell1(w1:World)(s1:Obj)(X:Value)(t:TypeId):∀j u,[X][j]?=some u→((w1.alloc s1).alloc (.cells #[X] t)).cell? ((⟨w1.heap.size+1,0,none⟩:Addr).add j)=some u:=by
 intro j u hu
 cases j with
 |zero=>simp at hu;subst hu;simp[go_sem,Addr.add]
 |succ j=>simp at hu
def tvU(T R:Int)(l:List Sv):Nat→List Value
 |0=>[]
 |k+1=>tvU T R l k++[tv T R (svAt l k)]
theorem tvU_len(T R:Int)(l:List Sv):∀k,(tvU T R l k).length=k
 |0=>rfl
 |k+1=>by simp[tvU,tvU_len T R l k]
theorem tvU_get(T R:Int)(l:List Sv):∀n k,k<n→(tvU T R l n)[k]?=some (tv T R (svAt l k))
 |0,k,h=>by omega
 |n+1,k,h=>by
  rw[tvU]
  by_cases e:k=n
  · subst e;rw[List.getElem?_append_right (by rw[tvU_len];omega),tvU_len];simp
  · rw[List.getElem?_append_left (by rw[tvU_len];omega)];exact tvU_get T R l n k (by omega)
theorem wls_of_owns{cap:Nat}{l:List Sv}(h:w.ownsRow B 345 1 (.slice a l.length cap) l.length (tvU T R l l.length)):WLs w a T R l:=by
 by_cases h0:l.length=0
 · exact .inl (List.length_eq_zero_iff.mp h0)
 · right
   obtain⟨g,c,hv,hb,hg⟩:=h.form (by omega);simp only[Value.slice.injEq] at hv;obtain⟨rfl,_,rfl⟩:=hv;refine⟨g,0,rfl,fun k hk=>?_⟩
   show w.cell? _=_
   rw[Nat.zero_add,h.cellAt k (by omega)];exact tvU_get T R l _ k hk
theorem takers_any(T R S C:Int)(l:List Sv)(a:Option Addr)(ca n0:Nat)(hn:n0≤l.length)(hr:arB T R S C=true)(hbef:∀j,j<n0→svB T C (svAt l j).1 (svAt l j).2.1 (svAt l j).2.2=true)(hx:n0<l.length→svE T R S C (svAt l n0).1 (svAt l n0).2.1 (svAt l n0).2.2≠0)(hl:l.length≤9)(w:World)(hv:VLs w a l):
 Calls prog 220 #[.agg #[Vi T,Vi R,Vi S,Vi C],.slice a l.length ca] w fun e w'=>((n0=l.length∧∃x cap,e=.returned (.tuple #[.slice x l.length cap,.nilIface])∧WLs w' x T R l)∨(n0<l.length∧e=.returned (.tuple #[.slice none 0 0,.iface 44 (Vi (svE T R S C (svAt l n0).1 (svAt l n0).2.1 (svAt l n0).2.2))])))∧Bw w w':=by
 obtain⟨i0,hi,hz0,hz1,hz2⟩:=info_parts infoTaker;have HR:=Za (RB.new w T R S C);have HA:=Za hr;have HV:=Za (hv.later (Zb w (.cells #[Vi T,Vi R,Vi S,Vi C] 113)));have Hd:=Za hbef;have Hf:=Za hx;have hmt:=fun(lo hi:Value) (w:World)=>Mk lo hi w;clear hv hbef hx hr
 go_enter func220,ntmps220
 go_wp2;generalize w.alloc (.cells #[Vi T,Vi R,Vi S,Vi C] 113)=w2 at*
 go_loopw [6,13] (fun v ix wr=>∃(k:Nat) (ao:Option Addr) (cv:Nat),k≤n0∧ix=Vi k∧v=.slice ao k cv∧wr.ownsRow w2.heap.size 345 1 v k (tvU T R l k)∧Bw w2 wr) (fun _ ix _=>l.length-(intOf ix).toNat)
 case atStart=>exact⟨0,none,0,by omega,rfl,rfl,World.ownsRow_nil _ _ _ _,Below.refl _ _⟩
 case round=>
  obtain⟨k,ao,cv,hk,rfl,rfl,hown,hnx⟩:=hrel;have hsize:=hnx.size
  by_cases hlt:k<l.length
  · obtain⟨bl,ol,rfl,d0,d1,d2⟩:=(HV.out.later hnx).at hlt;obtain⟨q0,q1,q2,q3⟩:=(B4.later HR.out.1 hnx).later (Zb wr (.cells #[Vi (svAt l k).1,Vi (svAt l k).2.1,.bool (svAt l k).2.2] 116))
    have j0:(0:Int)≤(k:Int):=by omega
    have j1:(k:Int)<(l.length:Int):=by omega
    have HN:=Za hnx;clear hnx
    by_cases hkn:k<n0
    · have hsv:=Hd.out k hkn;have hre:=reach_ok T R S C (svAt l k).1 (svAt l k).2.1 (svAt l k).2.2 (svE_mk HA.out hsv);have HS:=Za (show tvU T R l (k+1)=tvU T R l k++[tv T R (svAt l k)] from rfl);have Hc:=Za (show tv T R (svAt l k)=if(svAt l k).2.2 then .iface 342 (.agg #[]) else .iface 343 (.agg #[Vi (loR T R (svAt l k).1 (svAt l k).2.2),Vi (hiR T R (svAt l k).1 (svAt l k).2.2)]) from rfl);clear hsv;generalize tvU T R l k=q at *;generalize tv T R (svAt l k)=X at *;generalize loR T R (svAt l k).1 (svAt l k).2.2=lo at *;generalize hiR T R (svAt l k).1 (svAt l k).2.2=hi' at *;generalize (svAt l k).1=i at *;generalize (svAt l k).2.1=b at *;generalize (svAt l k).2.2=o at*
      cases o
      · go_wp2_with (first
         |(go_at_call 245;refine Sb (hre _) fun w1 hb1=>?_;have Hb:=Za (Y3 (hown.alloc _) hb1);have Ha:=Za (Zc (Zc HN.out (Zb _ _)) hb1);have LS:=Ha.out.size;obtain⟨z0,z1,z2⟩:=((B3.new wr (Vi i) (Vi b) (.bool false) 116).later hb1).later (Zb w1 (.cells #[Vi lo,Vi hi'] 105));clear hb1)
         |(at_builtin;refine wpList_append_lies _ rfl _ _ 313 rfl w2.heap.size 345 i0 .nilIface 1 16 underlying313 hi hz0 hz1 hz2 rfl (by decide) _ _ _ rfl ((Hb.out.alloc _).alloc _) ⟨w1.heap.size+1,0,none⟩ 1 1 [.iface 343 (.agg #[.int .i64 lo,.int .i64 hi'])] rfl rfl (new_cell1 w1 _ _ _) (fun x hx=>by simp at hx;subst hx;rfl) (by omega) (by unfold maxLen;omega) (by omega) (by simp;omega) _ rfl ?_;intro g cap w3 hown' hgrow hat hlt3))
        go_roundw
        case rel=>
         refine⟨k+1,some (Ad g 0),cap,by omega,by go_num,rfl,?_,?_⟩
         · rw[HS.out,Hc.out];exact hown'
         · exact((Ha.out.alloc LS _).alloc (by simp;omega) _).grown hgrow (by simp;omega) (fun q hq=>(Hb.out.lt q hq).1)
        case measure=>simp[intOf];omega
      · go_wp2_with (first
         |(go_at_call 245;refine Sb (hre _) fun w1 hb1=>?_;have Hb:=Za (Y3 (hown.alloc _) hb1);have Ha:=Za (Zc (Zc HN.out (Zb _ _)) hb1);have LS:=Ha.out.size;obtain⟨z0,z1,z2⟩:=((B3.new wr (Vi i) (Vi b) (.bool true) 116).later hb1).later (Zb w1 (.cells #[Vi lo,Vi hi'] 105));clear hb1)
         |(at_builtin;refine wpList_append_lies _ rfl _ _ 313 rfl w2.heap.size 345 i0 .nilIface 1 16 underlying313 hi hz0 hz1 hz2 rfl (by decide) _ _ _ rfl ((Hb.out.alloc _).alloc _) ⟨w1.heap.size+1,0,none⟩ 1 1 [.iface 342 (.agg #[])] rfl rfl (new_cell1 w1 _ _ _) (fun x hx=>by simp at hx;subst hx;rfl) (by omega) (by unfold maxLen;omega) (by omega) (by simp;omega) _ rfl ?_;intro g cap w3 hown' hgrow hat hlt3))
        go_roundw
        case rel=>
         refine⟨k+1,some (Ad g 0),cap,by omega,by go_num,rfl,?_,?_⟩
         · rw[HS.out,Hc.out];exact hown'
         · exact((Ha.out.alloc LS _).alloc (by simp;omega) _).grown hgrow (by simp;omega) (fun q hq=>(Hb.out.lt q hq).1)
        case measure=>simp[intOf];omega
    · have e:k=n0:=by omega
      subst e;have hre:=reach_err T R S C (svAt l k).1 (svAt l k).2.1 (svAt l k).2.2 (Hf.out hlt);clear hown;obtain⟨x,HXE⟩:∃x,Hid (svE T R S C (svAt l k).1 (svAt l k).2.1 (svAt l k).2.2=x):=⟨_,rfl⟩;rw[HXE.out] at hre
      go_wp2_with (go_at_call 245;refine Sb (hre _) fun w1 hb1=>?_;have Ha:=Za (Zc (Zc HN.out (Zb _ _)) hb1);clear hb1);go_ret2;exact⟨.inr ⟨hlt,by rw[HXE.out];rfl⟩,Zc HR.out.2 (Zc Ha.out (Zb _ _))⟩
  · have e:k=l.length:=by omega
    have e2:n0=l.length:=by omega
    subst e;have HW:=Za (wls_of_owns hown);have HN:=Za hnx;clear hown hnx;go_wp2;go_ret2;exact⟨.inl ⟨e2,_,_,rfl,HW.out⟩,Zc HR.out.2 HN.out⟩
def FB(w:World)(B ca:Nat)(a:Option Addr)(T R s:Int)(l:List Sv):Prop:=(Kc w B 0 (.slice a l.length ca)∧Kc w (B+1) 0 (Vi T)∧Kc w (B+1+1) 0 (Vi s))∧WLs w a T R l
theorem FB.later{s:Int}{l:List Sv}(h:FB w B ca a T R s l)(hb:Bw w w'):FB w' B ca a T R s l:=⟨⟨cell_later hb h.1.1,cell_later hb h.1.2.1,cell_later hb h.1.2.2⟩,h.2.later hb⟩
theorem keepF{s:Int}{l:List Sv}(hb:Bw u u')(h:((Kc u B 0 (.slice a l.length ca)∧Kc u (B+1) 0 (Vi T)∧Kc u (B+1+1) 0 (Vi s))∧WLs u a T R l)∧Bw w u):((Kc u' B 0 (.slice a l.length ca)∧Kc u' (B+1) 0 (Vi T)∧Kc u' (B+1+1) 0 (Vi s))∧WLs u' a T R l)∧Bw w u':=
 ⟨⟨⟨cell_later hb h.1.1.1,cell_later hb h.1.1.2.1,cell_later hb h.1.1.2.2⟩,h.1.2.later hb⟩,Zc h.2 hb⟩
theorem tooHigh_any(T R S C s:Int)(l:List Sv)(a:Option Addr)(ca B:Nat)(i:Int)(i0:-5000≤i)(i1:i≤5000)(t0:-1000≤T)(t1:T≤1000)(hok:AllOk T R S C l)(hl:l.length≤9)(w:World)(hw:FB w B ca a T R s l):
 Calls prog 247 #[Vi i,.pointer (some (Ad B 0)),.pointer (some (Ad (B+1) 0)),.pointer (some (Ad (B+1+1) 0))] w (Rt w (.bool (decide (s<tot T R l (i-T))))):=by
 have htg:∀u,WLs u a T R l→Calls prog 221 #[.slice a l.length ca,Vi (i-T)] u (Rt u (Vi (tot T R l (i-T)))):=fun u hu=>Nv T R S C l (i-T) a ca hok hl u hu;have v1:=Wr (i-T);have htg':∀u,(((Kc u B 0 (.slice a l.length ca)∧Kc u (B+1) 0 (Vi T)∧Kc u (B+1+1) 0 (Vi s))∧WLs u a T R l)∧Bw w u)→Calls prog 221 #[.slice a l.length ca,Vi (i-T)] u (Rt u (Vi (tot T R l (i-T)))):=fun u hu=>htg u hu.1.2;have S0:((Kc w B 0 (.slice a l.length ca)∧Kc w (B+1) 0 (Vi T)∧Kc w (B+1+1) 0 (Vi s))∧WLs w a T R l)∧Bw w w:=⟨hw,Below.refl _ _⟩;have Z:=Za S0;clear hok htg hw;generalize tot T R l (i-T)=t at*
 go_enter func247,ntmps247
 go_upto_region 1 with fail
 go_region_held3 (fun u=>((Kc u B 0 (.slice a l.length ca)∧Kc u (B+1) 0 (Vi T)∧Kc u (B+1+1) 0 (Vi s))∧WLs u a T R l)∧Bw w u)
  (first
   |(with_reducible assumption)
   |(with_reducible apply keepF;with_reducible assumption;with_reducible assumption)
   |(refine keepF ?_ Z.out;exact(Below.refl _ _).drew))
  (first
   |(go_at_call 221;refine Sb (htg' _ (by with_reducible assumption)) fun w' hb=>?_))
 all_goals
  rename_i hH
  have HB:=Za hH.2;clear hH;go_wp2_with fail;go_ret;exact⟨rfl,HB.out⟩
def Found(T R s:Int)(l:List Sv)(n i j:Int):Prop:=0≤i∧i≤j∧j≤n∧(i=0∨tot T R l (i-1-T)≤s)∧(j=n∨s<tot T R l (j-T))
theorem ssearch_any(T R S C s:Int)(l:List Sv)(a:Option Addr)(ca B:Nat)(n:Int)(n0:0≤n)(n1:n≤4000)(t0:-1000≤T)(t1:T≤1000)(hok:AllOk T R S C l)(hl:l.length≤9)(w:World)(hw:FB w B ca a T R s l):
 Calls prog 246 #[Vi n,.func (.func 247) #[] #[.pointer (some (Ad B 0)),.pointer (some (Ad (B+1) 0)),.pointer (some (Ad (B+1+1) 0))]] w fun e w'=>(∃i,e=.returned (Vi i)∧Found T R s l n i i)∧Bw w w':=by
 have HW:=Za hw;have Ha:=Za hok;clear hw hok
 go_enter func246,ntmps246
 go_wp2
 go_loopw [5,6] (fun x y wr=>∃i j:Int,x=Vi i∧y=Vi j∧Found T R s l n i j∧Bw w wr) (fun x y _=>(intOf y-intOf x).toNat)
 case atStart=>exact⟨0,n,rfl,rfl,⟨by omega,n0,by omega,.inl rfl,.inl rfl⟩,Below.refl _ _⟩
 case round=>
  obtain⟨i,j,rfl,rfl,hF,hb⟩:=hrel;have HF:=Za hF;obtain⟨i0,ij,jn,_,_⟩:=hF;have HB:=Za hb
  by_cases hlt:i<j
  · have hcl:=fun h h0 h1 u hu=>tooHigh_any T R S C s l a ca B h h0 h1 t0 t1 Ha.out hl u hu;have HL:=Za (HW.out.later hb);clear hb;have hm:=hcl ((i+j)/2) (by omega) (by omega) wr HL.out;clear hcl
    by_cases hq:s<tot T R l ((i+j)/2-T)
    · rw[decide_eq_true hq] at hm;have HQ:=Za hq;clear hq
      go_wp2_with (go_at_call 247;refine hm.mono ?_;rintro e w1 ⟨rfl,hb1⟩);go_roundw
      case rel=>
       obtain⟨f0,f1,f2,f3,f4⟩:=HF.out;exact⟨i,(i+j)/2,rfl,rfl,⟨f0,by omega,by omega,f3,.inr HQ.out⟩,Zc HB.out hb1⟩
      case measure=>simp[intOf];omega
    · rw[decide_eq_false hq] at hm;have HQ:=Za hq;clear hq
      go_wp2_with (go_at_call 247;refine hm.mono ?_;rintro e w1 ⟨rfl,hb1⟩);go_roundw
      case rel=>
       obtain⟨f0,f1,f2,f3,f4⟩:=HF.out;exact⟨(i+j)/2+1,j,rfl,rfl,⟨by omega,by omega,f2,.inr (by rw[show(i+j)/2+1-1-T=(i+j)/2-T by omega];have:=HQ.out;omega),f4⟩,Zc HB.out hb1⟩
      case measure=>simp[intOf];omega
  · have e:i=j:=by omega
    subst e;clear hb;go_wp2;go_ret;exact⟨⟨_,rfl,HF.out⟩,HB.out⟩
theorem found_lev{s:Int}{l:List Sv}(h0:tot T R l (-T)≤s){i:Int}(h:Found T R s l (2*T+1) i i):IsLev T R l s (i-1-T):=by
 obtain⟨f0,_,f2,f3,f4⟩:=h
 have hi:i≠0:=by
  intro e;subst e
  rcases f4 with f4|f4
  · omega
  · rw[show(0:Int)-T=-T by omega] at f4;omega
 refine⟨by omega,by omega,?_,fun hlt=>?_⟩
 · rcases f3 with f3|f3
   · exact absurd f3 hi
   · exact f3
 · rcases f4 with f4|f4
   · omega
   · rw[show i-1-T+1=i-T by omega];exact f4
theorem findLevel_any(T R S C s v:Int)(l:List Sv)(a:Option Addr)(ca:Nat)(t0:0≤T)(t1:T≤1000)(hok:AllOk T R S C l)(hl:l.length≤9)(h0:tot T R l (-T)≤s)(hv:IsLev T R l s v)(w:World)(hw:WLs w a T R l):
 Calls prog 223 #[.slice a l.length ca,Vi T,Vi s] w (Rt w (Vi v)):=by
 have HF:Hid (FB (((w.alloc (.cells #[.slice a l.length ca] 313)).alloc (.cells #[Vi T] 3)).alloc (.cells #[Vi s] 3)) w.heap.size ca a T R s l):=by
  refine⟨⟨?_,?_,?_⟩,((hw.later (Zb _ _)).later (Zb _ _)).later (Zb _ _)⟩<;>simp[go_sem,World.cell?_alloc_past]
 have HB:=Za (Zc (Zc (Zb w (.cells #[.slice a l.length ca] 313)) (Zb _ (.cells #[Vi T] 3))) (Zb _ (.cells #[Vi s] 3)));have hse:=fun u hu=>ssearch_any T R S C s l a ca w.heap.size (2*T+1) (by omega) (by omega) (by omega) t1 hok hl u hu;have HV:Hid (∀i,Found T R s l (2*T+1) i i→i-1-T=v):=fun i hi=>(found_lev h0 hi).unique hv;have HI:Hid (∀i,Found T R s l (2*T+1) i i→0≤i∧i≤3000):=fun i hi=>⟨hi.1,by have:=hi.2.2.1;omega⟩;clear hok h0 hv hw
 go_enter func223,ntmps223
 go_wp2_with (go_at_call 246;refine(hse _ HF.out).mono ?_;rintro e w1 ⟨⟨i,rfl,hi⟩,hb1⟩;have e1:=(FB.later HF.out hb1).1.2.1;obtain⟨g0,g1⟩:=HI.out i hi;have HE:=Za (HV.out i hi);have HB:=Za (Zc HB.out hb1);clear hb1 hi);go_ret;exact⟨by rw[←HE.out];rfl,HB.out⟩
def DA(w:World)(D n:Nat)(f:Nat→Int):Prop:=∀j,j<n→Kc w D j (Vi (f j))∧w.frozen? (Ad D j)=false
theorem DA.later(h:DA w D n f)(hb:Bw w w'):DA w' D n f:=fun j hj=>
 ⟨cell_later hb (h j hj).1,(hb.frozen (p:=⟨D,j,none⟩) (World.block_lt_of_cell? w ⟨D,j,none⟩ (h j hj).1)).trans (h j hj).2⟩
def updD(f:Nat→Int)(k:Nat)(v:Int)(j:Nat):Int:=if j=k then v else f j
theorem DA.set(h:DA w D n f)(k:Nat)(v:Int):DA (w.setCell (Ad D k) (Vi v)) D n (updD f k v):=fun j hj=>by
 refine⟨?_,by simpa[go_sem] using(h j hj).2⟩
 unfold updD
 by_cases e:j=k
 · subst e;rw[if_pos rfl];exact Xm (h j hj).1
 · rw[if_neg e];exact Zi (h j hj).1 (Zo (Ne.symm e))
theorem DA.new(w:World)(n:Nat)(t:TypeId):DA (w.alloc (.cells (madeCells #[Vi 0] n) t)) w.heap.size n (fun _=>0):=fun j hj=>by
 have e:(madeCells #[Vi 0] n)[j]?=some (Vi 0):=by rw[←Array.getElem?_toList,toList_madeCells_one,List.getElem?_replicate,if_pos hj]
 exact⟨by simp[go_sem,e],by simp[go_sem]⟩
theorem bset{w0:World}{v:Value}(h:Below K w0 w)(hD:K≤D):Below K w0 (w.setCell (Ad D k) v):=h.setCell hD v
def mixD(T R:Int)(l:List Sv)(v s:Int)(k j:Nat):Int:=if j<k then dlI T R l v s j else 0
theorem Uq(T R:Int)(l:List Sv)(v s:Int)(k:Nat):mixD T R l v s (k+1)=updD (mixD T R l v s k) k (dlI T R l v s k):=by
 funext j;simp only[mixD,updD];by_cases h1:j=k
 · subst h1;simp
 · by_cases h2:j<k
   · rw[if_pos (by omega),if_neg h1,if_pos h2]
   · rw[if_neg (by omega),if_neg h1,if_neg h2]
theorem updD_twice{g:Nat→Int}{a b:Int}(h:updD f k a=g):updD f k b=updD g k b:=by
 subst h;funext j;simp only[updD];split<;>rfl
theorem keepD{t:Int}(hb:Bw u u')(h:Kc u D k (Vi t)∧DA u D n f∧Bw w u):Kc u' D k (Vi t)∧DA u' D n f∧Bw w u':=
 ⟨cell_later hb h.1,h.2.1.later hb,Zc h.2.2 hb⟩
theorem make_ints(n:Nat)(hn:n≤9)(w:World):(Instr.makeSlice 22 (Vi (n:Int)) (Vi (n:Int))).run prog w=.ok (.slice (some (Ad w.heap.size 0)) n n) (w.alloc (.cells (madeCells #[Vi 0] n) 3)):=by
 obtain⟨i0,hi,hz0,hz1,hz2⟩:=info_parts infoInt;have h:=run_make (P:=prog) (w:=w) 22 3 i0 (Vi 0) underlying22 hi hz0 .i64 .i64 (n:Int) (n:Int) (by omega) (by omega) (by rw[hz2];omega) (by omega);rw[hz1,Int.toNat_natCast,Nat.mul_one] at h;exact h
theorem dl_ils{l:List Sv}{s:Int}(hn:n=l.length)(h:DA w D n (mixD T R l v s n)):ILs w (some (Ad D 0)) (dlU T R l v s l.length):=by
 subst hn
 right
 refine⟨D,0,rfl,fun k hk=>?_⟩;rw[Xc] at hk
 show w.cell? _=_
 rw[Nat.zero_add,(h k hk).1];have e:mixD T R l v s l.length k=dlI T R l v s k:=if_pos hk
 have g:∀n k,k<n→(dlU T R l v s n).getD k 0=dlI T R l v s k:=by
  intro n
  induction n with
  |zero=>intro k h;omega
  |succ n ih=>
   intro k h;rw[dlU,List.getD_eq_getElem?_getD]
   by_cases e:k=n
   · subst e;rw[List.getElem?_append_right (by rw[Xc];omega),Xc];simp
   · rw[List.getElem?_append_left (by rw[Xc];omega),←List.getD_eq_getElem?_getD];exact ih k (by omega)
 rw[e,g _ k hk]
theorem deal_at(T R S C v sm:Int)(l:List Sv)(a:Option Addr)(ca:Nat)(v0:-2000≤v)(v1:v≤2000)(m0:-20000≤sm)(m1:sm≤20000)(hok:AllOk T R S C l)(hl:l.length≤9)(w:World)(hw:WLs w a T R l):
 Calls prog 222 #[.slice a l.length ca,Vi v,Vi sm] w fun e w'=>(∃g cap,e=.returned (.slice (some (Ad g 0)) l.length cap)∧w.heap.size≤g∧ILs w' (some (Ad g 0)) (dlU T R l v (sm-tot T R l v) l.length))∧Bw w w':=by
 have HW:=Za hw;have Hd:=Za hok;have htg:=Nv T R S C l v a ca hok hl w hw;have htb:=tot_bd hok hl v;have hmk:=make_ints l.length hl;have hme:=Mk;have hml:=lost_method;obtain⟨s,HSE⟩:∃s,Hid (sm-tot T R l v=s):=⟨_,rfl⟩
 have s0:-30000≤s∧s≤30000:=by have:=HSE.out;omega
 clear hw hok
 go_enter func222,ntmps222
 go_wp2_with (go_at_call 221;refine htg.mono ?_;rintro e w0 ⟨rfl,hb0⟩);have HD:=Za (DA.new w0 l.length 3);have HB:=Za (Zc hb0 (Zb w0 (.cells (madeCells #[Vi 0] l.length) 3)));have hDW:=hb0.size;generalize w0.alloc (.cells (madeCells #[Vi 0] l.length) 3)=w3 at *;generalize w0.heap.size=D at *;clear hb0 htg hmk;rw[HSE.out]
 go_loopw [7,21] (fun x i wr=>∃k:Nat,k≤l.length∧i=Vi k∧x=Vi (lfU T R l v s k)∧DA wr D l.length (mixD T R l v s k)∧Bw w wr) (fun _ i _=>l.length-(intOf i).toNat)
 case atStart=>exact⟨0,Nat.zero_le _,rfl,rfl,HD.out,HB.out⟩
 case round=>
  clear HD HB;obtain⟨k,hk,rfl,rfl,hD,hb⟩:=hrel
  by_cases hlt:k<l.length
  · obtain⟨bb,off,rfl,hc⟩:=(HW.out.later hb).at hlt;have HD:=Za hD;have HB:=Za hb;have hlb:=lfU_bd T R l v s k;have htb1:=tk_bd Hd.out hlt v;have htb2:=tk_bd Hd.out hlt (v+1);have HS:=Za (show lfU T R l v s (k+1)=if 0<lfU T R l v s k∧tk T R (svAt l k) v<tk T R (svAt l k) (v+1) then lfU T R l v s k-1 else lfU T R l v s k from rfl);have HI:=Za (show dlI T R l v s k=if 0<lfU T R l v s k∧tk T R (svAt l k) v<tk T R (svAt l k) (v+1) then tk T R (svAt l k) v+1 else tk T R (svAt l k) v from rfl);have htk:∀u,tk T R (svAt l k) u=Ze u (loR T R (svAt l k).1 (svAt l k).2.2) (hiR T R (svAt l k).1 (svAt l k).2.2):=fun _=>rfl
    have j0:(0:Int)≤(k:Int):=by omega
    have j1:(k:Int)<(l.length:Int):=by omega
    clear hD hb htb;generalize lfU T R l v s k=x at*
    cases ho:(svAt l k).2.2
    · have h1:=Mj (loR T R (svAt l k).1 (svAt l k).2.2) (hiR T R (svAt l k).1 (svAt l k).2.2) v;have h2:=Mj (loR T R (svAt l k).1 (svAt l k).2.2) (hiR T R (svAt l k).1 (svAt l k).2.2) (v+1);rw[←htk] at h1 h2
      unfold tv at hc
      rw[if_neg (by simp[ho])] at hc;clear htk ho;generalize tk T R (svAt l k) v=t at *;generalize tk T R (svAt l k) (v+1)=t2 at *;generalize loR T R (svAt l k).1 (svAt l k).2.2=lo at *;generalize hiR T R (svAt l k).1 (svAt l k).2.2=hi at*
      go_upto_region 7 with(go_at_call 323;refine Sb (h1 _) fun w1 hb1=>?_;have HD:=Za (HD.out.later hb1);have HB:=Za (Zc HB.out hb1);have c0:=(HD.out k hlt).1;have c1:=(HD.out k hlt).2;clear hb1);have HD:=Za (HD.out.set k t);have HB:=Za (bset (k:=k) (v:=Vi t) HB.out hDW);generalize w1.setCell (Ad D k) (Vi t)=w2 at *;clear c0 c1;obtain⟨f,HFE⟩:∃f,Hid (updD (mixD T R l v s k) k t=f):=⟨_,rfl⟩;rw[HFE.out] at HD;have c0:=(HD.out k hlt).1;have c1:=(HD.out k hlt).2
      have Hc:Hid (f k=t):=by show f k=t;rw[←HFE.out];exact if_pos rfl
      rw[Hc.out] at c0
      by_cases hp:0<x
      · have S0:w2.cell? (Ad D k)=some (Vi t)∧DA w2 D l.length f∧Bw w w2:=⟨c0,HD.out,HB.out⟩;have Z:=Za S0;have v1:=Wr (v+1)
        by_cases hq:t<t2
        · rw[if_pos ⟨hp,hq⟩] at HS HI
          go_region_held3 (fun u=>Kc u D k (Vi t)∧DA u D l.length f∧Bw w u)
           (first
            |(with_reducible assumption)
            |(with_reducible apply keepD;with_reducible assumption;with_reducible assumption)
            |(refine keepD ?_ Z.out;exact(Below.refl _ _).drew))
           (first
            |(go_at_call 323;refine Sb (h2 _) fun w' hb=>?_))
          all_goals
           rename_i hH
           have Ha:=Za hH.2.1;have Hb:=Za hH.2.2;have d0:=hH.1;have d1:=(hH.2.1 k hlt).2;clear hH c0 c1;go_wp2_with fail;go_roundw
           (case rel=>exact⟨k+1,by omega,by go_num,by rw[HS.out],by rw[Uq,HI.out,updD_twice HFE.out];exact Ha.out.set k (t+1),bset Hb.out hDW⟩)
           (case measure=>simp[intOf];omega)
        · rw[if_neg (fun h=>hq h.2)] at HS HI
          go_region_held3 (fun u=>Kc u D k (Vi t)∧DA u D l.length f∧Bw w u)
           (first
            |(with_reducible assumption)
            |(with_reducible apply keepD;with_reducible assumption;with_reducible assumption)
            |(refine keepD ?_ Z.out;exact(Below.refl _ _).drew))
           (first
            |(go_at_call 323;refine Sb (h2 _) fun w' hb=>?_))
          all_goals
           rename_i hH
           have Ha:=Za hH.2.1;have Hb:=Za hH.2.2;clear hH c0 c1;go_wp2_with fail;go_roundw
           (case rel=>exact⟨k+1,by omega,by go_num,by rw[HS.out],by rw[Uq,HI.out,HFE.out];exact Ha.out,Hb.out⟩)
           (case measure=>simp[intOf];omega)
      · have hp':decide (0<x)=false:=by simpa using hp
        rw[if_neg (fun h=>hp h.1)] at HS HI;go_quiet (fail);go_wp2;go_roundw
        case rel=>exact⟨k+1,by omega,by go_num,by rw[HS.out],by rw[Uq,HI.out,HFE.out];exact HD.out.later (below_drewN (Below.refl _ _) _),Zc HB.out (below_drewN (Below.refl _ _) _)⟩
        case measure=>simp[intOf];omega
    · have h1:=Mi v;have h2:=Mi (v+1);rw[←tk_lost (T:=T) (R:=R) (v:=v) ho] at h1;rw[←tk_lost (T:=T) (R:=R) (v:=v+1) ho] at h2
      unfold tv at hc
      rw[if_pos ho] at hc;clear htk ho;generalize tk T R (svAt l k) v=t at *;generalize tk T R (svAt l k) (v+1)=t2 at*
      go_upto_region 7 with(go_at_call 322;refine Sb (h1 _) fun w1 hb1=>?_;have HD:=Za (HD.out.later hb1);have HB:=Za (Zc HB.out hb1);have c0:=(HD.out k hlt).1;have c1:=(HD.out k hlt).2;clear hb1);have HD:=Za (HD.out.set k t);have HB:=Za (bset (k:=k) (v:=Vi t) HB.out hDW);generalize w1.setCell (Ad D k) (Vi t)=w2 at *;clear c0 c1;obtain⟨f,HFE⟩:∃f,Hid (updD (mixD T R l v s k) k t=f):=⟨_,rfl⟩;rw[HFE.out] at HD;have c0:=(HD.out k hlt).1;have c1:=(HD.out k hlt).2
      have Hc:Hid (f k=t):=by show f k=t;rw[←HFE.out];exact if_pos rfl
      rw[Hc.out] at c0
      by_cases hp:0<x
      · have S0:w2.cell? (Ad D k)=some (Vi t)∧DA w2 D l.length f∧Bw w w2:=⟨c0,HD.out,HB.out⟩;have Z:=Za S0;have v1:=Wr (v+1)
        by_cases hq:t<t2
        · rw[if_pos ⟨hp,hq⟩] at HS HI
          go_region_held3 (fun u=>Kc u D k (Vi t)∧DA u D l.length f∧Bw w u)
           (first
            |(with_reducible assumption)
            |(with_reducible apply keepD;with_reducible assumption;with_reducible assumption)
            |(refine keepD ?_ Z.out;exact(Below.refl _ _).drew))
           (first
            |(go_at_call 322;refine Sb (h2 _) fun w' hb=>?_))
          all_goals
           rename_i hH
           have Ha:=Za hH.2.1;have Hb:=Za hH.2.2;have d0:=hH.1;have d1:=(hH.2.1 k hlt).2;clear hH c0 c1;go_wp2_with fail;go_roundw
           (case rel=>exact⟨k+1,by omega,by go_num,by rw[HS.out],by rw[Uq,HI.out,updD_twice HFE.out];exact Ha.out.set k (t+1),bset Hb.out hDW⟩)
           (case measure=>simp[intOf];omega)
        · rw[if_neg (fun h=>hq h.2)] at HS HI
          go_region_held3 (fun u=>Kc u D k (Vi t)∧DA u D l.length f∧Bw w u)
           (first
            |(with_reducible assumption)
            |(with_reducible apply keepD;with_reducible assumption;with_reducible assumption)
            |(refine keepD ?_ Z.out;exact(Below.refl _ _).drew))
           (first
            |(go_at_call 322;refine Sb (h2 _) fun w' hb=>?_))
          all_goals
           rename_i hH
           have Ha:=Za hH.2.1;have Hb:=Za hH.2.2;clear hH c0 c1;go_wp2_with fail;go_roundw
           (case rel=>exact⟨k+1,by omega,by go_num,by rw[HS.out],by rw[Uq,HI.out,HFE.out];exact Ha.out,Hb.out⟩)
           (case measure=>simp[intOf];omega)
      · have hp':decide (0<x)=false:=by simpa using hp
        rw[if_neg (fun h=>hp h.1)] at HS HI;go_quiet (fail);go_wp2;go_roundw
        case rel=>exact⟨k+1,by omega,by go_num,by rw[HS.out],by rw[Uq,HI.out,HFE.out];exact HD.out.later (below_drewN (Below.refl _ _) _),Zc HB.out (below_drewN (Below.refl _ _) _)⟩
        case measure=>simp[intOf];omega
  · have e:k=l.length:=by omega
    have HL:=Za (dl_ils e (by subst e;exact hD));subst e;clear hD;go_wp2;go_ret;exact⟨⟨_,_,rfl,hDW,by rw[HSE.out];exact HL.out⟩,hb⟩
theorem keepS{x:Option Addr}{l:List Sv}(hb:Bw u u')(h:Kc u w.heap.size 0 (Vi T)∧WLs u x T R l∧Bw w u):Kc u' w.heap.size 0 (Vi T)∧WLs u' x T R l∧Bw w u':=⟨cell_later hb h.1,h.2.1.later hb,Zc h.2.2 hb⟩
theorem spread_at(T R S C sum v:Int)(l:List Sv)(a:Option Addr)(ca:Nat)(hok:AllOk T R S C l)(h1:1≤l.length)(h4:l.length≤4)(hv:IsLev T R l (Ze sum (tot T R l (-T)) (tot T R l T)) v)(w:World)(hw:VLs w a l):
 Calls prog 171 #[.agg #[Vi T,Vi R,Vi S,Vi C],.slice a l.length ca,Vi sum] w fun e w'=>(∃g cap,e=.returned (.tuple #[.slice (some (Ad g 0)) l.length cap,.nilIface])∧w.heap.size≤g∧ILs w' (some (Ad g 0)) (dlU T R l v (Ze sum (tot T R l (-T)) (tot T R l T)-tot T R l v) l.length))∧Bw w w':=by
 have HR:=Za (RB.new w T R S C);have HV:=Za hw;have Hc:=Za hok;have ⟨t0,t1⟩:=(Yf hok.1).1;have hcr:=N8 T R S C;rw[show arE T R S C=0 by unfold arE;rw[if_pos hok.1],Z2] at hcr;have htk:=fun u hu=>takers_any T R S C l a ca l.length (Nat.le_refl _) hok.1 hok.2 (fun h=>by omega) (by omega) u hu;have b1:=tot_bd hok (by omega) (-T);have b2:=tot_bd hok (by omega) T;have HM:=Za (Um T R l (show -T≤T by omega));obtain⟨s,HSE⟩:∃s,Hid (Ze sum (tot T R l (-T)) (tot T R l T)=s):=⟨_,rfl⟩;have hcl:=Yu sum (tot T R l (-T)) (tot T R l T);have bs:=Y2 (v:=sum) HM.out;rw[HSE.out] at hv hcl bs;have bv:=And.intro hv.1 hv.2.1;have hfl:=fun x c u hu=>findLevel_any T R S C s v l x c (by omega) t1 hok (by omega) bs.1 hv u hu;have hdl:=fun x c u hu=>deal_at T R S C v s l x c (by omega) (by omega) (by omega) (by omega) hok (by omega) u hu;have htA:=fun x c u hu=>Nv T R S C l (-T) x c hok (by omega) u hu;have htB:=fun x c u hu=>Nv T R S C l T x c hok (by omega) u hu
 have i1:(1:Int)≤(l.length:Int):=by omega
 have i4:(l.length:Int)≤4:=by omega
 have v1:=Wr (-T);clear hw hok hv;rw[HSE.out]
 go_enter func171,ntmps171
 go_upto_region 9 with(first
  |(go_at_call 180;refine Sb (hcr _) fun w1 hb1=>?_;have HR:=Za (HR.out.later hb1);obtain⟨q0,q1,q2,q3⟩:=HR.out.1;clear hb1)
  |(go_at_call 220;refine(htk _ (HV.out.later HR.out.2)).mono ?_;rintro e w2 ⟨(⟨_,x,cap,rfl,hws⟩|⟨hno,_⟩),hb2⟩;rotate_left;omega;have HR:=Za (HR.out.later hb2);have Ha:=Za hws;obtain⟨q0,q1,q2,q3⟩:=HR.out.1;clear hb2 hws))
 generalize tot T R l (-T)=tA at *;generalize tot T R l T=tB at *;have S0:w2.cell? (Ad w.heap.size 0)=some (Vi T)∧WLs w2 x T R l∧Bw w w2:=⟨q0,Ha.out,HR.out.2⟩;have Z:=Za S0;have htA':∀u,(Kc u w.heap.size 0 (Vi T)∧WLs u x T R l∧Bw w u)→Calls prog 221 #[.slice x l.length cap,Vi (-T)] u (Rt u (Vi tA)):=fun u hu=>htA x cap u hu.2.1;have htB':∀u,(Kc u w.heap.size 0 (Vi T)∧WLs u x T R l∧Bw w u)→Calls prog 221 #[.slice x l.length cap,Vi T] u (Rt u (Vi tB)):=fun u hu=>htB x cap u hu.2.1;clear htA htB
 go_cut [2] (fun c u=>c=Vi s∧(Kc u w.heap.size 0 (Vi T)∧WLs u x T R l∧Bw w u))
 case first=>
  go_region_held3 (fun u=>Kc u w.heap.size 0 (Vi T)∧WLs u x T R l∧Bw w u)
   (first
    |(with_reducible assumption)
    |(with_reducible apply keepS;with_reducible assumption;with_reducible assumption)
    |(refine keepS ?_ Z.out;exact(Below.refl _ _).drew))
   (first
    |((first|go_at_call_of 221 (Vi (-T))|go_at_call_of 221 (Value.int .i64 (-T)));refine Sb (htA' _ (by with_reducible assumption)) fun w' hb=>?_)
    |(go_at_call 221;refine Sb (htB' _ (by with_reducible assumption)) fun w' hb=>?_)
    |(go_at_call 172;refine(hcl _).mono ?_;rintro e w' ⟨rfl,rfl⟩))
  all_goals
   rename_i hH
   go_wp2_with fail
   go_meet
   (case rel=>exact⟨rfl,hH⟩)
 case rest=>
  obtain⟨rfl,hH⟩:=hcut;rename World=>wb;clear S0 Z q0 q1 q2 q3 Ha HR;have HH:=Za hH;have p0:=hH.1;clear hH
  go_wp2_with (first
   |(go_at_call 223;refine Sb (hfl _ _ _ HH.out.2.1) fun w4 hb4=>?_;have HH:=Za (keepS hb4 HH.out);clear hb4)
   |(go_at_call 222;refine(hdl _ _ _ HH.out.2.1).mono ?_;rintro e w5 ⟨⟨y,cy,rfl,hyg,hys⟩,hb5⟩;have HY:=Za hys;have Hb:=Za (Nat.le_trans HH.out.2.2.size hyg);clear hyg;have HB:=Za (Zc HH.out.2.2 hb5);clear hb5 hys))
  go_ret2;exact⟨⟨_,_,rfl,Hb.out,HY.out⟩,HB.out⟩
end Go.Proofs.YtnfdfiholcelaaaGreatDoor
