import Derived.Shelf.Sort.Plain
import Derived.Shelf.Slices.In.SortNone
import Derived.Sort.OwnSortedInts
import Derived.Deep.AppendLies
import Derived.OwnWalk
import Derived.Test.YtnfdfiholcelaaaGreatDoorJp01
set_option maxRecDepth 100000
set_option maxHeartbeats 20000000
namespace Go.Proofs.YtnfdfiholcelaaaGreatDoor
open Go.RowKit Plain Tryz
variable {B C j n q:Nat}{a:Addr}{l:Int}{o t:Nat→Bool}{s:Nat→Int}{u v:Value}{w w' w0:World}
def BankAt(w:World)(B:Nat)(b:Nat→Int)(o:Nat→Bool)(l:Int):Prop:=
 Kc w B 0 (Vi (b 0))∧Kc w B 1 (Vi (b 1))∧Kc w B 2 (Vi (b 2))∧Kc w B 3 (.bool (o 0))∧Kc w B 4 (.bool (o 1))∧Kc w B 5 (.bool (o 2))∧Kc w B 6 (Vi l)
def RuleAt(w:World)(B:Nat)(m c:Int):Prop:=Kc w B 0 (Vi m)∧Kc w B 1 (Vi c)
def SampAt(w:World)(B:Nat)(t:Nat→Bool)(s:Nat→Int):Prop:=
 Kc w B 0 (.bool (t 0))∧Kc w B 1 (Vi (s 0))∧Kc w B 2 (.bool (t 1))∧Kc w B 3 (Vi (s 1))∧Kc w B 4 (.bool (t 2))∧Kc w B 5 (Vi (s 2))
theorem BankAt.later{b o l}(h:BankAt w B b o l)(hb:Bw w w'):BankAt w' B b o l:=by
 obtain⟨h0,h1,h2,h3,h4,h5,h6⟩:=h;exact⟨cell_later hb h0,cell_later hb h1,cell_later hb h2,cell_later hb h3,cell_later hb h4,cell_later hb h5,cell_later hb h6⟩
theorem RuleAt.later{m c}(h:RuleAt w B m c)(hb:Bw w w'):RuleAt w' B m c:=⟨cell_later hb h.1,cell_later hb h.2⟩
theorem SampAt.later{t s}(h:SampAt w B t s)(hb:Bw w w'):SampAt w' B t s:=by
 obtain⟨h0,h1,h2,h3,h4,h5⟩:=h;exact⟨cell_later hb h0,cell_later hb h1,cell_later hb h2,cell_later hb h3,cell_later hb h4,cell_later hb h5⟩
def ArgsAt(w0 w:World)(B:Nat)(b:Nat→Int)(o:Nat→Bool)(l m c:Int)(t:Nat→Bool)(s:Nat→Int):Prop:=
 BankAt w B b o l∧RuleAt w (B+1) m c∧SampAt w (B+1+1) t s∧Below B w0 w
theorem ArgsAt.later{b o l m c t s}(h:ArgsAt w0 w B b o l m c t s)(hB:B≤w.heap.size)(hb:Bw w w'):ArgsAt w0 w' B b o l m c t s:=
 ⟨h.1.later hb,h.2.1.later hb,h.2.2.1.later hb,h.2.2.2.trans (hb.mono hB)⟩
theorem ArgsAt.le{b o l m c t s}(h:ArgsAt w0 w w0.heap.size b o l m c t s):w0.heap.size≤w.heap.size:=h.2.2.2.size
theorem args_new(w:World)(b:Nat→Int)(o:Nat→Bool)(l m c:Int)(t:Nat→Bool)(s:Nat→Int):
 ArgsAt w (((w.alloc (.cells (Qap b o l) 33)).alloc (.cells #[Vi m,Vi c] 124)).alloc (.cells (Qav t s) 185)) w.heap.size b o l m c t s:=by
 refine⟨?_,?_,?_,?_⟩
 · refine⟨?_,?_,?_,?_,?_,?_,?_⟩<;>simp[go_sem,World.cell?_alloc_past]
 · refine⟨?_,?_⟩<;>simp[go_sem,World.cell?_alloc_past]
 · refine⟨?_,?_,?_,?_,?_,?_⟩<;>simp[go_sem]
 · exact Zc (Zc (Zb _ _) (Zb _ _)) (Zb _ _)
def Xb(t:Nat→Bool)(s:Nat→Int):Nat→Bool
 |0=>true
 |k+1=>Xb t s k&&(!t k||Zu (s k))
theorem sampU_false{k:Nat}(hk:k<3)(h1:t k=true)(h2:Zu (s k)=false):Xb t s 3=false:=by
 rcases Qth k with rfl|rfl|rfl<;>simp[Xb,h1,h2]
theorem sampU_true(h:Xb t s 3=true):∀k,k<3→t k=true→-1000000≤s k∧s k≤1000000:=by
 intro k hk ht;simp only[Xb,Bool.true_and,Bool.and_eq_true,Bool.or_eq_true,Bool.not_eq_true'] at h
 rcases Qth k with rfl|rfl|rfl
 · exact Ug (h.1.1.resolve_left (by simp[ht]))
 · exact Ug (h.1.2.resolve_left (by simp[ht]))
 · exact Ug (h.2.resolve_left (by simp[ht]))
def Z5(b:Nat→Int)(l m c:Int)(t:Nat→Bool)(s:Nat→Int):Int:=
 if Z7 m c=0 then(if Yg b l=0 then(if Xb t s 3 then 0 else 1) else Yg b l) else Z7 m c
theorem ruleE_ne{m c:Int}(h:Z7 m c≠0):Z7 m c=1:=by unfold Z7 at *;split<;>simp_all
theorem bankE_ne{b:Nat→Int}(h:Yg b l≠0):Yg b l=3:=by unfold Yg at *;split<;>simp_all
theorem checkStep_any(b:Nat→Int)(o:Nat→Bool)(l m c:Int)(t:Nat→Bool)(s:Nat→Int)(w:World):
 Calls prog 210 #[.agg (Qap b o l),.agg #[Vi m,Vi c],.agg (Qav t s)] w
  (Rt w (errV (Z5 b l m c t s))):=by
 have hr:=Ma m c;have hk:=Zji b o l;have HX:=args_new w b o l m c t s;have HX:=Za HX
 by_cases e1:Z7 m c=0
 · rw[e1,Z2] at hr
   by_cases e2:Yg b l=0
   · rw[e2,Z2] at hk
     have HE:Hid (Z5 b l m c t s=if Xb t s 3 then 0 else 1):=by show Z5 b l m c t s=_;rw[Z5,if_pos e1,if_pos e2]
     clear e1 e2
     go_enter func210,ntmps210
     go_wp2_with (first
      |(go_at_call 117;refine Sb (hr _) fun w1 hb1=>?_;have HX:=HX.out.later HX.out.le hb1;obtain⟨q0,q1,q2,q3,q4,q5,q6⟩:=HX.1;have HX:=Za HX;clear hb1)
      |(go_at_call 121;refine Sb (hk _) fun w2 hb2=>?_;have HX:=HX.out.later HX.out.le hb2;obtain⟨p0,p1,p2,p3,p4,p5⟩:=HX.2.2.1;have HX:=Za HX;clear hb2))
     go_loopw [22] (fun i wr=>∃k:Nat,k≤3∧i=Vi k∧Hid (Xb t s k=true)∧Bw w wr) (fun i _=>3-(intOf i).toNat)
     case atStart=>exact⟨0,by omega,rfl,rfl,HX.out.2.2.2⟩
     case round=>
      clear HX;obtain⟨k,hk3,rfl,hok,hb⟩:=hrel;have HB:=Za hb;clear hb
      by_cases hlt:k<3
      · have hix:=idxS t s k hlt;have hby:=beyond_any (s k)
        by_cases hg:(!t k||Zu (s k))=true
        · have HS:Hid (Xb t s (k+1)=true):=by show(Xb t s k&&(!t k||Zu (s k)))=true;rw[hok.out,hg];rfl
          generalize s k=z at *;generalize t k=y at *;generalize Zu z=x at*
          cases y
          · go_wp2;go_roundw
            case rel=>exact⟨k+1,by omega,by go_num,HS,Zc HB.out (Zb _ _)⟩
            case measure=>simp[intOf];omega
          · simp only[Bool.not_true,Bool.false_or] at hg;subst hg
            go_wp2_with (go_at_call 187;refine Sm (hby _) ?_);go_roundw
            case rel=>exact⟨k+1,by omega,by go_num,HS,Zc HB.out (Zb _ _)⟩
            case measure=>simp[intOf];omega
        · simp only[Bool.or_eq_true,Bool.not_eq_true',not_or,Bool.not_eq_false,Bool.not_eq_true] at hg;have HS:Hid (Xb t s 3=false):=sampU_false hlt hg.1 hg.2;obtain⟨g1,g2⟩:=hg;rw[g2] at hby;rw[g1] at hix;clear g1 g2;generalize s k=z at*
          go_wp2_with (go_at_call 187;refine Sm (hby _) ?_);go_ret;exact⟨by rw[HE.out,HS.out];rfl,Zc HB.out (Zb _ _)⟩
      · have e:k=3:=by omega
        subst e;go_wp2;go_ret;exact⟨by rw[HE.out,hok.out];rfl,HB.out⟩
   · have HE:Hid (Z5 b l m c t s=3):=by show Z5 b l m c t s=_;rw[Z5,if_pos e1,if_neg e2,bankE_ne e2]
     rw[bankE_ne e2,Z4 (by decide)] at hk;clear e1 e2
     go_enter func210,ntmps210
     go_wp2_with (first
      |(go_at_call 117;refine Sb (hr _) fun w1 hb1=>?_;have HX:=HX.out.later HX.out.le hb1;obtain⟨q0,q1,q2,q3,q4,q5,q6⟩:=HX.1;have HX:=Za HX;clear hb1)
      |(go_at_call 121;refine Sb (hk _) fun w2 hb2=>?_;have HX:=HX.out.later HX.out.le hb2;have HX:=Za HX;clear hb2))
     go_ret;exact⟨by rw[HE.out];rfl,HX.out.2.2.2⟩
 · have HE:Hid (Z5 b l m c t s=1):=by show Z5 b l m c t s=_;rw[Z5,if_neg e1,ruleE_ne e1]
   rw[ruleE_ne e1,Z4 (by decide)] at hr;clear e1
   go_enter func210,ntmps210
   go_wp2_with (first
    |(go_at_call 117;refine Sb (hr _) fun w1 hb1=>?_;have HX:=HX.out.later HX.out.le hb1;have HX:=Za HX;clear hb1))
   go_ret;exact⟨by rw[HE.out];rfl,HX.out.2.2.2⟩
def cntB(t o:Nat→Bool)(k:Nat):Bool:=t k&&!o k
def Zv(t o:Nat→Bool):Nat→Int
 |0=>0
 |k+1=>if cntB t o k then Zv t o k+1 else Zv t o k
def sumU(t o:Nat→Bool)(s:Nat→Int):Nat→Int
 |0=>0
 |k+1=>if cntB t o k then sumU t o s k+s k else sumU t o s k
def mnI(x y:Int):Int:=if x≤y then x else y
def mxI(x y:Int):Int:=if x≤y then y else x
def Yt(t o:Nat→Bool)(s:Nat→Int):Nat→Int
 |0=>2147483647
 |k+1=>if cntB t o k then mnI (Yt t o s k) (s k) else Yt t o s k
def Yw(t o:Nat→Bool)(s:Nat→Int):Nat→Int
 |0=>-2147483647
 |k+1=>if cntB t o k then mxI (Yw t o s k) (s k) else Yw t o s k
def votI(t o:Nat→Bool)(s:Nat→Int)(l:Int):Int:=
 if Zv t o 3=1 then sumU t o s 3 else if Zv t o 3=2 then sumU t o s 3/2 else if Zv t o 3=3 then sumU t o s 3-Yt t o s 3-Yw t o s 3 else l
theorem manyU_bd(t o:Nat→Bool):∀k:Nat,0≤Zv t o k∧Zv t o k≤k
 |0=>by simp[Zv]
 |k+1=>by have:=manyU_bd t o k;simp only[Zv];split<;>omega
def Fit(t o:Nat→Bool)(s:Nat→Int):Prop:=∀k,k<3→cntB t o k=true→-1000000≤s k∧s k≤1000000
theorem fit_of(h:Xb t s 3=true):Fit t o s:=by
 intro k hk hc;exact sampU_true h k hk (by simp[cntB] at hc;exact hc.1)
theorem sumU_bd(h:Fit t o s):∀k:Nat,k≤3→-1000000*(k:Int)≤sumU t o s k∧sumU t o s k≤1000000*(k:Int)
 |0,_=>by simp[sumU]
 |k+1,hk=>by
  have ih:=sumU_bd h k (by omega);simp only[sumU]
  split
  · have:=h k (by omega) (by assumption);omega
  · omega
theorem leastU_bd(h:Fit t o s):∀k:Nat,k≤3→-1000000≤Yt t o s k∧Yt t o s k≤2147483647
 |0,_=>by simp[Yt]
 |k+1,hk=>by
  have ih:=leastU_bd h k (by omega);simp only[Yt,mnI]
  split
  · have:=h k (by omega) (by assumption);split<;>omega
  · omega
theorem mostU_bd(h:Fit t o s):∀k:Nat,k≤3→-2147483647≤Yw t o s k∧Yw t o s k≤1000000
 |0,_=>by simp[Yw]
 |k+1,hk=>by
  have ih:=mostU_bd h k (by omega);simp only[Yw,mxI]
  split
  · have:=h k (by omega) (by assumption);split<;>omega
  · omega
theorem mnI_of(x y:Int):mnI x y≤x∧mnI x y≤y∧(mnI x y=x∨mnI x y=y):=by unfold mnI;split<;>omega
theorem mxI_of(x y:Int):x≤mxI x y∧y≤mxI x y∧(mxI x y=x∨mxI x y=y):=by unfold mxI;split<;>omega
theorem mid_bd(x y z:Int)(hx:-1000000≤x∧x≤1000000)(hy:-1000000≤y∧y≤1000000)(hz:-1000000≤z∧z≤1000000):
 -1000000≤x+y+z-mnI (mnI (mnI 2147483647 x) y) z-mxI (mxI (mxI (-2147483647) x) y) z∧x+y+z-mnI (mnI (mnI 2147483647 x) y) z-mxI (mxI (mxI (-2147483647) x) y) z≤1000000:=by
 have e1:=mnI_of 2147483647 x;have e2:=mnI_of (mnI 2147483647 x) y;have e3:=mnI_of (mnI (mnI 2147483647 x) y) z;have f1:=mxI_of (-2147483647) x;have f2:=mxI_of (mxI (-2147483647) x) y;have f3:=mxI_of (mxI (mxI (-2147483647) x) y) z;generalize mnI (mnI (mnI 2147483647 x) y) z=p3 at *;generalize mnI (mnI 2147483647 x) y=p2 at *;generalize mnI 2147483647 x=p1 at *;generalize mxI (mxI (mxI (-2147483647) x) y) z=q3 at *;generalize mxI (mxI (-2147483647) x) y=q2 at *;generalize mxI (-2147483647) x=q1 at*
 omega
theorem votI_bd(h:Fit t o s)(h0:-1000000≤l)(h1:l≤1000000):-1000000≤votI t o s l∧votI t o s l≤1000000:=by
 have a0:=h 0 (by omega);have a1:=h 1 (by omega);have a2:=h 2 (by omega)
 cases c0:cntB t o 0<;>cases c1:cntB t o 1<;>cases c2:cntB t o 2<;>(try replace a0:=a0 c0)<;>(try replace a1:=a1 c1)<;>(try replace a2:=a2 c2)
 case true.true.true=>
  have:=mid_bd (s 0) (s 1) (s 2) a0 a1 a2
  simpa[votI,Zv,sumU,Yt,Yw,c0,c1,c2] using this
 all_goals
  simp[votI,Zv,sumU,c0,c1,c2]
  omega
def nbI(t o:Nat→Bool)(s b:Nat→Int)(v m:Int)(k:Nat):Int:=if o k then b k else badI (b k) (fineB (t k) (s k) v m)
def noB(t o:Nat→Bool)(s b:Nat→Int)(v m c:Int)(k:Nat):Bool:=if o k then true else outB (b k) (fineB (t k) (s k) v m) c
def mixI(k:Nat)(f g:Nat→Int)(j:Nat):Int:=if j<k then f j else g j
def mixB(k:Nat)(f g:Nat→Bool)(j:Nat):Bool:=if j<k then f j else g j
def updI(g:Nat→Int)(k:Nat)(v:Int)(j:Nat):Int:=if j=k then v else g j
def updB(g:Nat→Bool)(k:Nat)(v:Bool)(j:Nat):Bool:=if j=k then v else g j
theorem W4(k:Nat)(f g:Nat→Int):mixI (k+1) f g=updI (mixI k f g) k (f k):=by
 funext j;simp only[mixI,updI];by_cases h1:j=k
 · subst h1;simp
 · by_cases h2:j<k
   · rw[if_pos (by omega),if_neg h1,if_pos h2]
   · rw[if_neg (by omega),if_neg h1,if_neg h2]
theorem W5(k:Nat)(f g:Nat→Bool):mixB (k+1) f g=updB (mixB k f g) k (f k):=by
 funext j;simp only[mixB,updB];by_cases h1:j=k
 · subst h1;simp
 · by_cases h2:j<k
   · rw[if_pos (by omega),if_neg h1,if_pos h2]
   · rw[if_neg (by omega),if_neg h1,if_neg h2]
theorem mixI_at(k:Nat)(f g:Nat→Int):mixI k f g k=g k:=by unfold mixI;rw[if_neg (Nat.lt_irrefl _)]
theorem mixB_at(k:Nat)(f g:Nat→Bool):mixB k f g k=g k:=by unfold mixB;rw[if_neg (Nat.lt_irrefl _)]
theorem mixI_zero(f g:Nat→Int):mixI 0 f g=g:=by funext j;unfold mixI;rw[if_neg (Nat.not_lt_zero _)]
theorem mixB_zero(f g:Nat→Bool):mixB 0 f g=g:=by funext j;unfold mixB;rw[if_neg (Nat.not_lt_zero _)]
theorem updI_same(g:Nat→Int)(k:Nat):updI g k (g k)=g:=by funext j;unfold updI;split<;>simp_all
theorem updB_same(g:Nat→Bool)(k:Nat):updB g k (g k)=g:=by funext j;unfold updB;split<;>simp_all
def Frz(w:World)(B n:Nat):Prop:=(∀j,j<n→w.frozen? (Ad B j)=false)∧B<w.heap.size
theorem Frz.later(h:Frz w B n)(hb:Bw w w'):Frz w' B n:=
 ⟨fun j hj=>(hb.frozen (p:=⟨B,j,none⟩) h.2).trans (h.1 j hj),Nat.lt_of_lt_of_le h.2 hb.size⟩
theorem Frz.set(h:Frz w B n):Frz (w.setCell (Ad C q) v) B n:=
 ⟨fun j hj=>by simpa[go_sem] using h.1 j hj,by simpa[go_sem] using h.2⟩
theorem BankAt.bad{b o l}(h:BankAt w B b o l)(k:Nat)(hk:k<3):Kc w B k (Vi (b k)):=by
 obtain⟨h0,h1,h2,h3,h4,h5,h6⟩:=h
 rcases Qth k with rfl|rfl|rfl<;>assumption
theorem BankAt.out{b o l}(h:BankAt w B b o l)(k:Nat)(hk:k<3):Kc w B (3+k) (.bool (o k)):=by
 obtain⟨h0,h1,h2,h3,h4,h5,h6⟩:=h
 rcases Qth k with rfl|rfl|rfl<;>assumption
theorem SampAt.there{t s}(h:SampAt w B t s)(k:Nat)(hk:k<3):Kc w B (k*2) (.bool (t k)):=by
 obtain⟨h0,h1,h2,h3,h4,h5⟩:=h
 rcases Qth k with rfl|rfl|rfl<;>assumption
theorem SampAt.is{t s}(h:SampAt w B t s)(k:Nat)(hk:k<3):Kc w B (k*2+1) (Vi (s k)):=by
 obtain⟨h0,h1,h2,h3,h4,h5⟩:=h
 rcases Qth k with rfl|rfl|rfl<;>assumption
theorem Zi{c:Addr}(h:w.cell? a=some u)(hc:c≠a):(w.setCell c v).cell? a=some u:=(World.cell?_setCell_other _ _ _ _ hc).trans h
theorem Xm(h:w.cell? a=some u):(w.setCell a v).cell? a=some v:=by simp[go_sem,h]
theorem Yh(hc:C≠B):(⟨C,q,none⟩:Addr)≠⟨B,j,none⟩:=fun e=>hc (congrArg Addr.block e)
theorem Zo(hc:q≠j):(⟨B,q,none⟩:Addr)≠⟨B,j,none⟩:=fun e=>hc (congrArg Addr.off e)
theorem RuleAt.set{m c v}(h:RuleAt w B m c)(hc:C≠B):RuleAt (w.setCell (Ad C q) v) B m c:=
 ⟨Zi h.1 (Yh hc),Zi h.2 (Yh hc)⟩
theorem SampAt.set{t s v}(h:SampAt w B t s)(hc:C≠B):SampAt (w.setCell (Ad C q) v) B t s:=by
 obtain⟨h0,h1,h2,h3,h4,h5⟩:=h;exact⟨Zi h0 (Yh hc),Zi h1 (Yh hc),Zi h2 (Yh hc),Zi h3 (Yh hc),Zi h4 (Yh hc),Zi h5 (Yh hc)⟩
theorem BankAt.set{b o l v}(h:BankAt w B b o l)(hc:C≠B):BankAt (w.setCell (Ad C q) v) B b o l:=by
 obtain⟨h0,h1,h2,h3,h4,h5,h6⟩:=h;exact⟨Zi h0 (Yh hc),Zi h1 (Yh hc),Zi h2 (Yh hc),Zi h3 (Yh hc),Zi h4 (Yh hc),Zi h5 (Yh hc),Zi h6 (Yh hc)⟩
theorem BankAt.setBad0{b o l}(h:BankAt w B b o l)(v:Int):BankAt (w.setCell (Ad B 0) (Vi v)) B (updI b 0 v) o l:=by
 obtain⟨h0,h1,h2,h3,h4,h5,h6⟩:=h
 unfold BankAt
 rw[show updI b 0 v 0=v from if_pos rfl,show updI b 0 v 1=b 1 from if_neg (by decide),show updI b 0 v 2=b 2 from if_neg (by decide)];exact⟨Xm h0,Zi h1 (Zo (by decide)),Zi h2 (Zo (by decide)),Zi h3 (Zo (by decide)),Zi h4 (Zo (by decide)),Zi h5 (Zo (by decide)),Zi h6 (Zo (by decide))⟩
theorem BankAt.setOut0{b o l}(h:BankAt w B b o l)(v:Bool):BankAt (w.setCell (Ad B 3) (.bool v)) B b (updB o 0 v) l:=by
 obtain⟨h0,h1,h2,h3,h4,h5,h6⟩:=h
 unfold BankAt
 rw[show updB o 0 v 0=v from if_pos rfl,show updB o 0 v 1=o 1 from if_neg (by decide),show updB o 0 v 2=o 2 from if_neg (by decide)];exact⟨Zi h0 (Zo (by decide)),Zi h1 (Zo (by decide)),Zi h2 (Zo (by decide)),Xm h3,Zi h4 (Zo (by decide)),Zi h5 (Zo (by decide)),Zi h6 (Zo (by decide))⟩
theorem BankAt.setBad1{b o l}(h:BankAt w B b o l)(v:Int):BankAt (w.setCell (Ad B 1) (Vi v)) B (updI b 1 v) o l:=by
 obtain⟨h0,h1,h2,h3,h4,h5,h6⟩:=h
 unfold BankAt
 rw[show updI b 1 v 0=b 0 from if_neg (by decide),show updI b 1 v 1=v from if_pos rfl,show updI b 1 v 2=b 2 from if_neg (by decide)];exact⟨Zi h0 (Zo (by decide)),Xm h1,Zi h2 (Zo (by decide)),Zi h3 (Zo (by decide)),Zi h4 (Zo (by decide)),Zi h5 (Zo (by decide)),Zi h6 (Zo (by decide))⟩
theorem BankAt.setOut1{b o l}(h:BankAt w B b o l)(v:Bool):BankAt (w.setCell (Ad B 4) (.bool v)) B b (updB o 1 v) l:=by
 obtain⟨h0,h1,h2,h3,h4,h5,h6⟩:=h
 unfold BankAt
 rw[show updB o 1 v 0=o 0 from if_neg (by decide),show updB o 1 v 1=v from if_pos rfl,show updB o 1 v 2=o 2 from if_neg (by decide)];exact⟨Zi h0 (Zo (by decide)),Zi h1 (Zo (by decide)),Zi h2 (Zo (by decide)),Zi h3 (Zo (by decide)),Xm h4,Zi h5 (Zo (by decide)),Zi h6 (Zo (by decide))⟩
theorem BankAt.setBad2{b o l}(h:BankAt w B b o l)(v:Int):BankAt (w.setCell (Ad B 2) (Vi v)) B (updI b 2 v) o l:=by
 obtain⟨h0,h1,h2,h3,h4,h5,h6⟩:=h
 unfold BankAt
 rw[show updI b 2 v 0=b 0 from if_neg (by decide),show updI b 2 v 1=b 1 from if_neg (by decide),show updI b 2 v 2=v from if_pos rfl];exact⟨Zi h0 (Zo (by decide)),Zi h1 (Zo (by decide)),Xm h2,Zi h3 (Zo (by decide)),Zi h4 (Zo (by decide)),Zi h5 (Zo (by decide)),Zi h6 (Zo (by decide))⟩
theorem BankAt.setOut2{b o l}(h:BankAt w B b o l)(v:Bool):BankAt (w.setCell (Ad B 5) (.bool v)) B b (updB o 2 v) l:=by
 obtain⟨h0,h1,h2,h3,h4,h5,h6⟩:=h
 unfold BankAt
 rw[show updB o 2 v 0=o 0 from if_neg (by decide),show updB o 2 v 1=o 1 from if_neg (by decide),show updB o 2 v 2=v from if_pos rfl];exact⟨Zi h0 (Zo (by decide)),Zi h1 (Zo (by decide)),Zi h2 (Zo (by decide)),Zi h3 (Zo (by decide)),Zi h4 (Zo (by decide)),Xm h5,Zi h6 (Zo (by decide))⟩
theorem BankAt.setBad{b o l}(h:BankAt w B b o l)(k:Nat)(hk:k<3)(v:Int):BankAt (w.setCell (Ad B k) (Vi v)) B (updI b k v) o l:=by
 rcases Qth k with rfl|rfl|rfl
 · exact h.setBad0 v
 · exact h.setBad1 v
 · exact h.setBad2 v
theorem BankAt.setOut{b o l}(h:BankAt w B b o l)(k:Nat)(hk:k<3)(v:Bool):BankAt (w.setCell (Ad B (3+k)) (.bool v)) B b (updB o k v) l:=by
 rcases Qth k with rfl|rfl|rfl
 · exact h.setOut0 v
 · exact h.setOut1 v
 · exact h.setOut2 v
theorem BankAt.setLast{b o l}(h:BankAt w B b o l)(v:Int):BankAt (w.setCell (Ad B 6) (Vi v)) B b o v:=by
 obtain⟨h0,h1,h2,h3,h4,h5,h6⟩:=h;exact⟨Zi h0 (Zo (by decide)),Zi h1 (Zo (by decide)),Zi h2 (Zo (by decide)),Zi h3 (Zo (by decide)),Zi h4 (Zo (by decide)),Zi h5 (Zo (by decide)),Xm h6⟩
end Go.Proofs.YtnfdfiholcelaaaGreatDoor
namespace Go.Proofs.YtnfdfiholcelaaaGreatDoor
open Go.Shelf Tryz
def sortL_ren:Go.Shelf.Ren:=⟨fun|189=>239|125=>237|257=>262|128=>260|129=>261|294=>272|295=>273|296=>274|297=>275|298=>276|299=>277|216=>278|300=>279|301=>280|328=>285|329=>268|330=>269|331=>286|332=>287|215=>238|343=>289|n=>n,fun|28=>22|3=>3|46=>229|0=>0|51=>136|53=>363|4=>4|183=>357|182=>356|131=>308|5=>5|9=>9|218=>371|222=>375|228=>385|229=>386|n=>n,fun|n=>n⟩
theorem sortL:Go.Proofs.Lays.n189 prog sortL_ren:={
 mixed:=by kernel_rfl
 f125:=func237.trans (congrArg some (by kernel_rfl))
 f128:=func260.trans (congrArg some (by kernel_rfl))
 f129:=func261.trans (congrArg some (by kernel_rfl))
 f189:=func239.trans (congrArg some (by kernel_rfl))
 f215:=func238.trans (congrArg some (by kernel_rfl))
 f216:=func278.trans (congrArg some (by kernel_rfl))
 f257:=func262.trans (congrArg some (by kernel_rfl))
 f294:=func272.trans (congrArg some (by kernel_rfl))
 f295:=func273.trans (congrArg some (by kernel_rfl))
 f296:=func274.trans (congrArg some (by kernel_rfl))
 f297:=func275.trans (congrArg some (by kernel_rfl))
 f298:=func276.trans (congrArg some (by kernel_rfl))
 f299:=func277.trans (congrArg some (by kernel_rfl))
 f300:=func279.trans (congrArg some (by kernel_rfl))
 f301:=func280.trans (congrArg some (by kernel_rfl))
 f328:=func285.trans (congrArg some (by kernel_rfl))
 f329:=func268.trans (congrArg some (by kernel_rfl))
 f330:=func269.trans (congrArg some (by kernel_rfl))
 f331:=func286.trans (congrArg some (by kernel_rfl))
 f332:=func287.trans (congrArg some (by kernel_rfl))
 f343:=func289.trans (congrArg some (by kernel_rfl))
 t0:=underlying0
 a0:=Tryz.isAgg0
 z0:=Tryz.sizeOf0
 v0:=Tryz.zeroValue0
 t3:=underlying3
 a3:=Tryz.isAgg3
 z3:=Tryz.sizeOf3
 v3:=Tryz.zeroValue3
 t4:=underlying4
 a4:=Tryz.isAgg4
 z4:=Tryz.sizeOf4
 v4:=Tryz.zeroValue4
 t5:=underlying5
 a5:=Tryz.isAgg5
 z5:=Tryz.sizeOf5
 v5:=Tryz.zeroValue5
 t9:=underlying9
 a9:=Tryz.isAgg9
 z9:=Tryz.sizeOf9
 v9:=Tryz.zeroValue9
 t28:=underlying22
 a28:=Tryz.isAgg22
 z28:=Tryz.sizeOf22
 v28:=Tryz.zeroValue22
 t46:=underlying229
 a46:=Tryz.isAgg229
 z46:=Tryz.sizeOf229
 v46:=Tryz.zeroValue229
 t51:=underlying136
 a51:=Tryz.isAgg136
 z51:=Tryz.sizeOf136
 v51:=Tryz.zeroValue136
 t53:=underlying363
 a53:=Tryz.isAgg363
 z53:=Tryz.sizeOf363
 v53:=Tryz.zeroValue363
 t131:=underlying308
 a131:=Tryz.isAgg308
 z131:=Tryz.sizeOf308
 v131:=Tryz.zeroValue308
 t182:=underlying356
 a182:=Tryz.isAgg356
 z182:=Tryz.sizeOf356
 v182:=Tryz.zeroValue356
 t183:=underlying357
 a183:=Tryz.isAgg357
 z183:=Tryz.sizeOf357
 v183:=Tryz.zeroValue357
 t218:=underlying371
 a218:=Tryz.isAgg371
 z218:=Tryz.sizeOf371
 v218:=Tryz.zeroValue371
 t222:=underlying375
 a222:=Tryz.isAgg375
 z222:=Tryz.sizeOf375
 v222:=Tryz.zeroValue375
 t228:=underlying385
 a228:=Tryz.isAgg385
 z228:=Tryz.sizeOf385
 v228:=Tryz.zeroValue385
 t229:=underlying386
 a229:=Tryz.isAgg386
 z229:=Tryz.sizeOf386
 v229:=Tryz.zeroValue386 }
open Go.Sort Go.RowKit Tryz in
theorem sort_int(blk off cap:Nat)(zs:List Int)(w:World)(hH:Holds (Value.int .i64) w blk off zs.toArray)(hblk:blk<w.heap.size)(hsz:zs.length<4611686018427387904):
 Calls prog 239 #[.slice (some (Ad blk off)) zs.length cap] w fun e w'=>
  e=.returned (.tuple #[])∧∃n os,w'=grow (putRow (Value.int .i64) (Sort.ahead w n) blk off (zs.mergeSort fun x y=>decide (x≤y)).toArray) os:=Any.slices_Sort_int sortL blk off cap zs w hH hblk hsz
open Go.Sort Go.RowKit Tryz in
theorem sort_none(p:Option Addr)(cap:Nat)(w:World):
 Calls prog 239 #[.slice p 0 cap] w (Re w (.tuple #[])):=Any.slices_Sort_int_none sortL p cap w
end Go.Proofs.YtnfdfiholcelaaaGreatDoor
namespace Go.Proofs.YtnfdfiholcelaaaGreatDoor
open Go.RowKit Plain Tryz
variable {B C n:Nat}{o t:Nat→Bool}{s:Nat→Int}{v:Value}{w w0:World}
theorem infoInt:(prog.info? 3).map (fun i=>(i.zero,i.size,i.bytes))=some (some (Vi 0),1,8):=by kernel_rfl
def cntL(t o:Nat→Bool)(s:Nat→Int):Nat→List Int
 |0=>[]
 |k+1=>if cntB t o k then cntL t o s k++[s k] else cntL t o s k
theorem cntL_len(t o:Nat→Bool)(s:Nat→Int):∀k:Nat,(cntL t o s k).length≤k
 |0=>by simp[cntL]
 |k+1=>by have:=cntL_len t o s k;simp only[cntL];split<;>simp<;>omega
def risL(l:List Int):List Int:=l.mergeSort fun x y=>decide (x≤y)
theorem risL_len(l:List Int):(risL l).length=l.length:=List.length_mergeSort l
theorem owns_base{B':Nat}{e:TypeId}{size:Nat}{xs:List Value}(h:w.ownsRow B e size v n xs)(hb:B'≤B):w.ownsRow B' e size v n xs:=by
 refine⟨h.1,?_⟩
 rcases h.2 with h|⟨g,cap,cur,h1,h2,h3⟩
 · exact .inl h
 · exact .inr ⟨g,cap,cur,h1,Nat.le_trans hb h2,h3⟩
theorem counting_any(b:Nat→Int)(o:Nat→Bool)(l:Int)(t:Nat→Bool)(s:Nat→Int)(w:World):
 Calls prog 212 #[.agg (Qap b o l),.agg (Qav t s)] w
  fun e w'=>(∃v,e=.returned v∧w'.ownsRow w.heap.size 3 1 v (risL (cntL t o s 3)).length ((risL (cntL t o s 3)).map (Value.int .i64)))∧Bw w w':=by
 obtain⟨i0,hi,hz0,hz1,hz2⟩:=info_parts infoInt;have H2:=Za (show Bw w ((w.alloc (.cells (Qap b o l) 33)).alloc (.cells (Qav t s) 185)) from Zc (Zb _ _) (Zb _ _))
 have B2:Hid (BankAt ((w.alloc (.cells (Qap b o l) 33)).alloc (.cells (Qav t s) 185)) w.heap.size b o l):=by
  refine⟨?_,?_,?_,?_,?_,?_,?_⟩<;>simp[go_sem,World.cell?_alloc_past]
 go_enter func212,ntmps212
 go_wp2;generalize ((w.alloc (.cells (Qap b o l) 33)).alloc (.cells (Qav t s) 185))=w2 at*
 go_loopw [5,9] (fun v i wr=>∃(k:Nat) (ao:Option Addr) (cv:Nat),k≤3∧i=Vi k∧v=.slice ao (cntL t o s k).length cv∧wr.ownsRow w2.heap.size 3 1 v (cntL t o s k).length ((cntL t o s k).map (Value.int .i64))∧Bw w2 wr) (fun _ i _=>3-(intOf i).toNat)
 case atStart=>exact⟨0,none,0,by omega,rfl,rfl,World.ownsRow_nil _ _ _ _,Below.refl _ _⟩
 case round=>
  obtain⟨k,ao,cv,hk,rfl,rfl,hown,hnx⟩:=hrel;have hsize:=hnx.size
  by_cases hlt:k<3
  · have hix:=idxS t s k hlt;have c3:∀ob,(wr.alloc ob).cell? (Ad w.heap.size (3+k))=some (.bool (o k)):=fun ob=>cell_later (Zb wr ob) ((B2.out.later hnx).out k hlt);have hl:=cntL_len t o s k;have HS:=Za (show cntL t o s (k+1)=(if(t k&&!o k) then cntL t o s k++[s k] else cntL t o s k) from rfl);have HN:=Za hnx;clear hnx
    have i0':(0:Int)≤(k:Int):=by omega
    have i1':(k:Int)<3:=by omega
    generalize cntL t o s k=q at*
    cases h1:t k
    · rw[h1] at hix HS;have HO:=Za hown;clear hown;go_wp2;go_roundw
      case rel=>exact⟨k+1,ao,cv,by omega,by go_num,by rw[HS.out];rfl,by rw[HS.out];exact HO.out.alloc _,Zc HN.out (Zb _ _)⟩
      case measure=>simp[intOf];omega
    · rw[h1] at hix HS
      cases h2:o k
      · rw[h2] at c3 HS;generalize s k=z at*
        have hnew:∀(s1:Obj) (j:Nat) (u:Value),[Vi z][j]?=some u→((wr.alloc s1).alloc (.cells #[Vi z] 3)).cell? ((⟨wr.heap.size+1,0,none⟩:Addr).add j)=some u:=by
         intro s1 j u hu
         cases j with
         |zero=>simp at hu;subst hu;simp[go_sem,Addr.add]
         |succ j=>simp at hu
        go_wp2_with (first
         |(at_builtin;refine wpList_append_lies _ rfl _ _ 22 rfl w2.heap.size 3 i0 (.int .i64 0) 1 8 underlying22 hi hz0 hz1 hz2 rfl (by decide) _ _ _ rfl ((hown.alloc _).alloc _) ⟨wr.heap.size+1,0,none⟩ 1 1 [.int .i64 z] rfl rfl (hnew _) (fun x hx=>by simp at hx;subst hx;rfl) (by omega) (by unfold maxLen;omega) (by omega) (by simp;omega) _ rfl ?_;intro g cap w3 hown' hgrow hat hlt3))
        go_roundw
        case rel=>
         refine⟨k+1,some (Ad g 0),cap,by omega,by go_num,by rw[HS.out];simp,?_,?_⟩
         · rw[HS.out,show(if(true&&!false)=true then q++[z] else q)=q++[z] from rfl,List.map_append,List.length_append];exact hown'
         · exact((HN.out.alloc hsize _).alloc (by simp;omega) _).grown hgrow (by simp;omega) (fun q hq=>(hown.lt q hq).1)
        case measure=>simp[intOf];omega
      · rw[h2] at c3 HS;have HO:=Za hown;clear hown;go_wp2;go_roundw
        case rel=>exact⟨k+1,ao,cv,by omega,by go_num,by rw[HS.out];rfl,by rw[HS.out];exact HO.out.alloc _,Zc HN.out (Zb _ _)⟩
        case measure=>simp[intOf];omega
  · have e:k=3:=by omega
    subst e;have HN:=Za hnx;clear hnx;have Ha:Hid (w.heap.size≤w2.heap.size):=H2.out.size;have hl:=cntL_len t o s 3;obtain⟨q,HQE⟩:∃q,Hid (cntL t o s 3=q):=⟨_,rfl⟩;rw[HQE.out] at hown hl⊢
    by_cases hq:q.length=0
    · have HQ:Hid (q=[]):=List.length_eq_zero_iff.mp hq;rw[hq];have HO:=Za hown;clear hown hq
      go_wp2_with (go_at_call 239;refine(sort_none _ _ _).mono ?_;rintro e w' ⟨rfl,rfl⟩);go_ret;refine⟨⟨_,rfl,?_⟩,Zc H2.out HN.out⟩;rw[HQE.out,HQ.out,show risL []=[] by simp[risL]];rw[HQ.out] at HO;exact owns_base HO.out Ha.out
    · obtain⟨g,cap,cur,hv,hg0,hg,hc1,hc2,hc3,hc4⟩:=hown.2.resolve_left (fun h=>hq h.2);simp only[Value.slice.injEq] at hv;obtain⟨rfl,_,rfl⟩:=hv;have hH:=holds_of_blockI hg (by rw[Nat.mul_one] at hc4;exact hc4)
      have hgl:g<wr.heap.size:=by
       rcases Nat.lt_or_ge g wr.heap.size with h|h
       · exact h
       · rw[Array.getElem?_eq_none h] at hg;cases hg
      have hso:=sort_int g 0 cv q wr hH hgl (by omega)
      have HR:Hid (∀n os,(Go.Sort.grow (Go.Sort.putRow (Value.int .i64) (Go.Sort.ahead wr n) g 0 (q.mergeSort fun x y=>decide (x≤y)).toArray) os).ownsRow w2.heap.size 3 1 (.slice (some (Ad g 0)) q.length cv) q.length ((risL q).map (Value.int .i64))∧Bw w2 (Go.Sort.grow (Go.Sort.putRow (Value.int .i64) (Go.Sort.ahead wr n) g 0 (q.mergeSort fun x y=>decide (x≤y)).toArray) os)):=by
       intro n os;refine⟨ownsRow_sortedI (risL_len q) hg0 hg hc1 hc2 hc3,?_⟩;exact HN.out.grown (grownBy_sortedI _) hsize (fun k hk=>by cases hk;exact hg0)
      clear hH hg hc4 hc3 hown
      go_wp2_with (go_at_call 239;refine hso.mono ?_;rintro e w' ⟨rfl,n,os,hw'⟩;have HW:=Za hw';clear hw');go_ret;have hr:=HR.out n os;rw[←HW.out] at hr;refine⟨⟨_,rfl,?_⟩,Zc H2.out hr.2⟩;rw[HQE.out,risL_len];exact owns_base hr.1 Ha.out
def zI(_:Nat):Int:=0
def zB(_:Nat):Bool:=false
def StAt(w0 w:World)(b:Nat→Int)(o:Nat→Bool)(l m c:Int)(t:Nat→Bool)(s:Nat→Int):Prop:=
 (BankAt w w0.heap.size b o l∧Frz w w0.heap.size 7)∧RuleAt w (w0.heap.size+1) m c∧SampAt w (w0.heap.size+1+1) t s∧(BankAt w (w0.heap.size+1+1+1) zI zB 0∧Frz w (w0.heap.size+1+1+1) 7)∧(RuleAt w (w0.heap.size+1+1+1+1) 0 0∧Frz w (w0.heap.size+1+1+1+1) 2)∧Bw w0 w
theorem StAt.later{w':World}{b o l m c t s}(h:StAt w0 w b o l m c t s)(hb:Bw w w'):StAt w0 w' b o l m c t s:=by
 obtain⟨⟨h1,h2⟩,h3,h4,⟨h5,h6⟩,⟨h7,h8⟩,h9⟩:=h;exact⟨⟨h1.later hb,h2.later hb⟩,h3.later hb,h4.later hb,⟨h5.later hb,h6.later hb⟩,⟨h7.later hb,h8.later hb⟩,Zc h9 hb⟩
theorem StAt.lt{b o l m c t s}(h:StAt w0 w b o l m c t s):w0.heap.size+1+1+1+1<w.heap.size:=h.2.2.2.2.1.2.2
theorem StAt.setBad{b o l m c t s}(h:StAt w0 w b o l m c t s)(k:Nat)(hk:k<3)(v:Int):StAt w0 (w.setCell (Ad w0.heap.size k) (Vi v)) (updI b k v) o l m c t s:=by
 obtain⟨⟨h1,h2⟩,h3,h4,⟨h5,h6⟩,⟨h7,h8⟩,h9⟩:=h;exact⟨⟨h1.setBad k hk v,h2.set⟩,h3.set (by omega),h4.set (by omega),⟨h5.set (by omega),h6.set⟩,⟨h7.set (by omega),h8.set⟩,h9.setCell (Nat.le_refl _) _⟩
theorem StAt.setOut{b o l m c t s}(h:StAt w0 w b o l m c t s)(k:Nat)(hk:k<3)(v:Bool):StAt w0 (w.setCell (Ad w0.heap.size (3+k)) (.bool v)) b (updB o k v) l m c t s:=by
 obtain⟨⟨h1,h2⟩,h3,h4,⟨h5,h6⟩,⟨h7,h8⟩,h9⟩:=h;exact⟨⟨h1.setOut k hk v,h2.set⟩,h3.set (by omega),h4.set (by omega),⟨h5.set (by omega),h6.set⟩,⟨h7.set (by omega),h8.set⟩,h9.setCell (Nat.le_refl _) _⟩
theorem StAt.setLast{b o l m c t s}(h:StAt w0 w b o l m c t s)(v:Int):StAt w0 (w.setCell (Ad w0.heap.size 6) (Vi v)) b o v m c t s:=by
 obtain⟨⟨h1,h2⟩,h3,h4,⟨h5,h6⟩,⟨h7,h8⟩,h9⟩:=h;exact⟨⟨h1.setLast v,h2.set⟩,h3.set (by omega),h4.set (by omega),⟨h5.set (by omega),h6.set⟩,⟨h7.set (by omega),h8.set⟩,h9.setCell (Nat.le_refl _) _⟩
theorem StAt.setElse{b o l m c t s}(h:StAt w0 w b o l m c t s){q:Nat}(hC:w0.heap.size+1+1+1+1<C)(v:Value):StAt w0 (w.setCell (Ad C q) v) b o l m c t s:=by
 obtain⟨⟨h1,h2⟩,h3,h4,⟨h5,h6⟩,⟨h7,h8⟩,h9⟩:=h;exact⟨⟨h1.set (by omega),h2.set⟩,h3.set (by omega),h4.set (by omega),⟨h5.set (by omega),h6.set⟩,⟨h7.set (by omega),h8.set⟩,h9.setCell (by simp;omega) _⟩
theorem Frz.new{cs:Array Value}{T:TypeId}:Frz (w.alloc (.cells cs T)) w.heap.size n:=
 ⟨fun j _=>by simp[go_sem],by simp[go_sem]⟩
theorem st_new(w:World)(b:Nat→Int)(o:Nat→Bool)(l m c:Int)(t:Nat→Bool)(s:Nat→Int):
 StAt w (((((w.alloc (.cells (Qap b o l) 33)).alloc (.cells #[Vi m,Vi c] 124)).alloc (.cells (Qav t s) 185)).alloc (.cells Qay 33)).alloc (.cells #[Vi 0,Vi 0] 187)) b o l m c t s:=by
 have A:=args_new w b o l m c t s;have F1:Frz (w.alloc (.cells (Qap b o l) 33)) w.heap.size 7:=Frz.new;have F2:=(F1.later (Zb _ (.cells #[Vi m,Vi c] 124))).later (Zb _ (.cells (Qav t s) 185))
 have hz:((((w.alloc (.cells (Qap b o l) 33)).alloc (.cells #[Vi m,Vi c] 124)).alloc (.cells (Qav t s) 185))).heap.size=w.heap.size+1+1+1:=by simp[go_sem]
 generalize ((((w.alloc (.cells (Qap b o l) 33)).alloc (.cells #[Vi m,Vi c] 124)).alloc (.cells (Qav t s) 185)))=w3 at*
 have F3:Frz (w3.alloc (.cells Qay 33)) (w.heap.size+1+1+1) 7:=by rw[←hz];exact Frz.new
 have B3:BankAt (w3.alloc (.cells Qay 33)) (w.heap.size+1+1+1) zI zB 0:=by
  rw[←hz]
  refine⟨?_,?_,?_,?_,?_,?_,?_⟩<;>simp[go_sem,zI,zB]
 have A3:=A.later A.le (Zb w3 (.cells Qay 33));have F23:=F2.later (Zb w3 (.cells Qay 33))
 have hz4:(w3.alloc (.cells Qay 33)).heap.size=w.heap.size+1+1+1+1:=by simp[go_sem,hz]
 generalize (w3.alloc (.cells Qay 33))=w4 at *;have L:=Zb w4 (.cells #[Vi 0,Vi 0] 187);have A4:=A3.later A3.le L;refine⟨⟨A4.1,F23.later L⟩,A4.2.1,A4.2.2.1,⟨B3.later L,F3.later L⟩,⟨?_,?_⟩,A4.2.2.2⟩
 · rw[←hz4];exact⟨by simp[go_sem],by simp[go_sem]⟩
 · rw[←hz4];exact Frz.new
theorem RuleAt.setBoth{m c}(h:RuleAt w B m c)(p q:Int):RuleAt ((w.setCell (Ad B 0) (Vi p)).setCell (Ad B 1) (Vi q)) B p q:=
 ⟨Zi (Xm h.1) (Zo (by decide)),Xm (Zi h.2 (Zo (by decide)))⟩
def ansW(w:World)(B C:Nat)(y0 y1 y2:Int)(x0 x1 x2:Bool)(l v n:Int):World:=
 ((((((((w.setCell (Ad B 0) (Vi y0)).setCell (Ad B 1) (Vi y1)).setCell (Ad B 2) (Vi y2)).setCell (Ad B 3) (.bool x0)).setCell (Ad B 4) (.bool x1)).setCell (Ad B 5) (.bool x2)).setCell (Ad B 6) (Vi l)).setCell (Ad C 0) (Vi v)).setCell (Ad C 1) (Vi n)
theorem ansW_at(hb:BankAt w B zI zB 0)(hr:RuleAt w C 0 0)(hne:C≠B)(y0 y1 y2:Int)(x0 x1 x2:Bool)(l v n:Int):
 ((ansW w B C y0 y1 y2 x0 x1 x2 l v n).cell? (Ad B 0)=some (Vi y0)∧(ansW w B C y0 y1 y2 x0 x1 x2 l v n).cell? (Ad B 1)=some (Vi y1)∧(ansW w B C y0 y1 y2 x0 x1 x2 l v n).cell? (Ad B 2)=some (Vi y2)∧(ansW w B C y0 y1 y2 x0 x1 x2 l v n).cell? (Ad B 3)=some (.bool x0)∧(ansW w B C y0 y1 y2 x0 x1 x2 l v n).cell? (Ad B 4)=some (.bool x1)∧(ansW w B C y0 y1 y2 x0 x1 x2 l v n).cell? (Ad B 5)=some (.bool x2)∧(ansW w B C y0 y1 y2 x0 x1 x2 l v n).cell? (Ad B 6)=some (Vi l))
 ∧RuleAt (ansW w B C y0 y1 y2 x0 x1 x2 l v n) C v n:=by
 refine⟨?_,?_⟩
 · have h:=((((((((hb.setBad0 y0).setBad1 y1).setBad2 y2).setOut0 x0).setOut1 x1).setOut2 x2).setLast l).set (q:=0) (v:=Vi v) hne).set (q:=1) (v:=Vi n) hne;exact h
 · exact(((((((hr.set (q:=0) (v:=Vi y0) (Ne.symm hne)).set (q:=1) (v:=Vi y1) (Ne.symm hne)).set (q:=2) (v:=Vi y2) (Ne.symm hne)).set (q:=3) (v:=.bool x0) (Ne.symm hne)).set (q:=4) (v:=.bool x1) (Ne.symm hne)).set (q:=5) (v:=.bool x2) (Ne.symm hne)).set (q:=6) (v:=Vi l) (Ne.symm hne)).setBoth v n
theorem ansW_below{K:Nat}(h:Below K w0 w)(hB:K≤B)(hC:K≤C)(y0 y1 y2:Int)(x0 x1 x2:Bool)(l v n:Int):Below K w0 (ansW w B C y0 y1 y2 x0 x1 x2 l v n):=
 ((((((((h.setCell hB _).setCell hB _).setCell hB _).setCell hB _).setCell hB _).setCell hB _).setCell hB _).setCell hC _).setCell hC _
def setI:List Int→Int→Int
 |[_,y,_],_=>y
 |[x,y],_=>(x+y)/2
 |[x],_=>x
 |_,last=>last
theorem Mb{zs:List Int}(h:w.ownsRow B 3 1 v zs.length (zs.map (Value.int .i64)))(hn:zs≠[]):
 ∃g cap,v=.slice (some (Ad g 0)) zs.length cap∧∀j,j<zs.length→w.cell? (Ad g j)=some (Vi (zs.getD j 0)):=by
 obtain⟨g,cap,cur,hv,hg0,hg,hc1,hc2,hc3,hc4⟩:=h.2.resolve_left (fun h=>hn (List.length_eq_zero_iff.mp h.2));refine⟨g,cap,hv,fun j hj=>?_⟩;have hH:=holds_of_blockI hg (by rw[Nat.mul_one] at hc4;exact hc4);have:=(hH j (by simpa using hj)).1;simp only[Nat.zero_add] at this;rw[this,List.getD_eq_getElem?_getD,List.getElem?_eq_getElem hj]
 simp[hj]
theorem settle_any(zs:List Int)(l:Int)(v:Value)(B:Nat)(w:World)(hlen:zs.length≤3)(hz:∀z∈zs,-1000000≤z∧z≤1000000)(h:w.ownsRow B 3 1 v zs.length (zs.map (Value.int .i64))):
 Calls prog 211 #[v,Vi l] w (Rt w (.agg #[Vi (setI zs l),Vi (zs.length:Int)])):=by
 match zs,hlen,hz,h with
 |[],_,_,h=>
  obtain⟨ao,cv,rfl⟩:∃ao cv,v=.slice ao 0 cv:=by
   rcases h.2 with⟨h,_⟩|⟨g,cap,cur,h,_⟩
   · exact⟨none,0,h⟩
   · exact⟨_,_,h⟩
  clear h
  go_enter func211,ntmps211
  go_wp2;exact bodyPost_ret (v:=.agg #[Vi l,Vi 0]) (by simp[results,results211,go_sem]) rfl ⟨rfl,Zb _ _⟩
 |[x],_,_,h=>
  obtain⟨g,cap,rfl,hc⟩:=Mb h (by simp);have c0:=hc 0 (by simp);have n0:=World.block_lt_of_cell? w ⟨g,0,none⟩ c0;clear hc h;simp only[List.getD_cons_zero,List.length_cons,List.length_nil] at c0⊢;have d0:∀ob,(w.alloc ob).cell? (Ad g 0)=some (Vi x):=fun ob=>cell_later (Zb _ _) c0
  go_enter func211,ntmps211
  go_wp2;exact bodyPost_ret (v:=.agg #[Vi x,Vi 1]) (by simp[results,results211,go_sem]) rfl ⟨rfl,Zb _ _⟩
 |[x,y],_,hz,h=>
  obtain⟨g,cap,rfl,hc⟩:=Mb h (by simp);have c0:=hc 0 (by simp);have c1:=hc 1 (by simp);have hx:=hz x (by simp);have hy:=hz y (by simp);clear hc h hz;simp only[List.getD_cons_zero,List.getD_cons_succ,List.length_cons,List.length_nil] at c0 c1⊢;have d0:∀ob,(w.alloc ob).cell? (Ad g 0)=some (Vi x):=fun ob=>cell_later (Zb _ _) c0;have d1:∀ob,(w.alloc ob).cell? (Ad g 1)=some (Vi y):=fun ob=>cell_later (Zb _ _) c1
  have hw:=Wr (x+y)
  go_enter func211,ntmps211
  go_wp2;go_quiet (fail);go_wp2
  rename_i nq
  have HX:=Za (show RuleAt ((w.alloc (.cells #[Vi 0,Vi 0] 187)).drewN nq) w.heap.size 0 0 from RuleAt.later ⟨by simp[go_sem],by simp[go_sem]⟩ (below_drewN (Below.refl _ _) _));have HB:=Za (below_drewN (Zb w (.cells #[Vi 0,Vi 0] 187)) nq);generalize ((w.alloc (.cells #[Vi 0,Vi 0] 187)).drewN nq)=w1 at *;have hx':=HX.out.setBoth ((x+y)/2) 2;have hb':=(HB.out.setCell (p:=⟨w.heap.size,0,none⟩) (Nat.le_refl _) (Vi ((x+y)/2))).setCell (p:=⟨w.heap.size,1,none⟩) (Nat.le_refl _) (Vi 2);generalize ((w1.setCell (Ad w.heap.size 0) (Vi ((x+y)/2))).setCell (Ad w.heap.size 1) (Vi 2))=w2 at *;obtain⟨e0,e1⟩:=hx';exact bodyPost_ret (v:=.agg #[Vi ((x+y)/2),Vi 2]) (by simp[results,results211,go_sem,e0,e1]) rfl ⟨rfl,hb'⟩
 |[x,y,z],_,_,h=>
  obtain⟨g,cap,rfl,hc⟩:=Mb h (by simp);have c1:=hc 1 (by simp);clear hc h;simp only[List.getD_cons_zero,List.getD_cons_succ,List.length_cons,List.length_nil] at c1⊢;have d1:∀ob,(w.alloc ob).cell? (Ad g 1)=some (Vi y):=fun ob=>cell_later (Zb _ _) c1
  go_enter func211,ntmps211
  go_wp2;exact bodyPost_ret (v:=.agg #[Vi y,Vi 3]) (by simp[results,results211,go_sem]) rfl ⟨rfl,Zb _ _⟩
theorem rise2(x y:Int):risL [x,y]=if x≤y then[x,y] else[y,x]:=by
 unfold risL
 by_cases h:x≤y<;>simp[List.mergeSort,List.MergeSort.Internal.splitInTwo,h]
theorem rise3(x y z:Int):∃p q r,risL [x,y,z]=[p,q,r]∧q=x+y+z-mnI (mnI x y) z-mxI (mxI x y) z:=by
 have e:risL [x,y,z]=List.merge (risL [x,y]) [z] (fun x y=>decide (x≤y)):=by
  unfold risL
  rw[List.mergeSort]
  simp[List.MergeSort.Internal.splitInTwo]
 rw[e,rise2]
 unfold mnI mxI
 by_cases h1:x≤y
 · by_cases h2:x≤z
   · by_cases h3:y≤z
     · refine⟨x,y,z,by simp[h1,h2,h3],?_⟩;simp only[h1,h2,h3,if_true];omega
     · refine⟨x,z,y,by simp[h1,h2,h3],?_⟩;simp only[h1,h2,h3,if_true,if_false];omega
   · have h3:¬y≤z:=by omega
     refine⟨z,x,y,by simp[h1,h2],?_⟩;simp only[h1,h2,h3,if_true,if_false];omega
 · by_cases h2:y≤z
   · by_cases h3:x≤z
     · refine⟨y,x,z,by simp[h1,h2,h3],?_⟩;simp only[h1,h2,h3,if_true,if_false];omega
     · refine⟨y,z,x,by simp[h1,h2,h3],?_⟩;simp only[h1,h2,h3,if_true,if_false];omega
   · have h3:¬x≤z:=by omega
     refine⟨z,y,x,by simp[h1,h2],?_⟩;simp only[h1,h2,h3,if_false];omega
theorem many_len(t o:Nat→Bool)(s:Nat→Int):∀k:Nat,((cntL t o s k).length:Int)=Zv t o k
 |0=>rfl
 |k+1=>by have:=many_len t o s k;simp only[cntL,Zv];split<;>(try simp)<;>omega
theorem cntL_bd(h:Fit t o s):∀z∈risL (cntL t o s 3),-1000000≤z∧z≤1000000:=by
 have hk:∀k:Nat,k≤3→∀z∈cntL t o s k,-1000000≤z∧z≤1000000:=by
  intro k
  induction k with
  |zero=>intro _ z hz;simp[cntL] at hz
  |succ k ih=>
   intro hk z hz;simp only[cntL] at hz
   split at hz
   · rcases List.mem_append.mp hz with h1|h1
     · exact ih (by omega) z h1
     · simp at h1;subst h1;exact h k (by omega) (by assumption)
   · exact ih (by omega) z hz
 intro z hz;exact hk 3 (Nat.le_refl _) z (List.mem_mergeSort.mp hz)
theorem set_vot(l:Int)(h:Fit t o s):setI (risL (cntL t o s 3)) l=votI t o s l:=by
 have a0:=h 0 (by omega);have a1:=h 1 (by omega);have a2:=h 2 (by omega)
 cases c0:cntB t o 0<;>cases c1:cntB t o 1<;>cases c2:cntB t o 2<;>(try replace a0:=a0 c0)<;>(try replace a1:=a1 c1)<;>(try replace a2:=a2 c2)
 case true.true.true=>
  obtain⟨p,q,r,e1,e2⟩:=rise3 (s 0) (s 1) (s 2)
  have e3:mnI 2147483647 (s 0)=s 0:=by unfold mnI;rw[if_neg (by omega)]
  have e4:mxI (-2147483647) (s 0)=s 0:=by unfold mxI;rw[if_pos (by omega)]
  simp[votI,Zv,sumU,Yt,Yw,cntL,c0,c1,c2,e1,setI,e2,e3,e4]
 case false.false.false=>simp[votI,Zv,cntL,c0,c1,c2,risL,setI]
 case true.false.false=>simp[votI,Zv,sumU,cntL,c0,c1,c2,risL,setI]
 case false.true.false=>simp[votI,Zv,sumU,cntL,c0,c1,c2,risL,setI]
 case false.false.true=>simp[votI,Zv,sumU,cntL,c0,c1,c2,risL,setI]
 all_goals
  simp[votI,Zv,sumU,cntL,c0,c1,c2,rise2]
  split<;>simp[setI,Int.add_comm]
def vmnO(x y:Int):Int:=min x y
def vmxO(x y:Int):Int:=max x y
theorem vrun_min2(ts:Array TypeId)(t:TypeId)(p q:Int)(w:World):(Builtin.min_ ts t #[Vi p,Vi q]).run prog w=.ok (Vi (vmnO p q)) w:=by
 unfold vmnO;by_cases h:q<p
 · rw[Int.min_eq_right (by omega)];simp[Builtin.min_,Builtin.min2,h]
 · rw[Int.min_eq_left (by omega)];simp[Builtin.min_,Builtin.min2,h]
theorem vrun_max2(ts:Array TypeId)(t:TypeId)(p q:Int)(w:World):(Builtin.max_ ts t #[Vi p,Vi q]).run prog w=.ok (Vi (vmxO p q)) w:=by
 unfold vmxO;by_cases h:p<q
 · rw[Int.max_eq_right (by omega)];simp[Builtin.max_,Builtin.max2,h]
 · rw[Int.max_eq_left (by omega)];simp[Builtin.max_,Builtin.max2,h]
theorem vrun_min(ts:Array TypeId)(t:TypeId)(p q:Int)(w:World):(Builtin.min_ ts t #[Vi p,Vi q]).run prog w=.ok (Vi (mnI p q)) w:=by
 rw[vrun_min2,show vmnO p q=mnI p q by unfold vmnO mnI;split<;>omega]
theorem vrun_max(ts:Array TypeId)(t:TypeId)(p q:Int)(w:World):(Builtin.max_ ts t #[Vi p,Vi q]).run prog w=.ok (Vi (mxI p q)) w:=by
 rw[vrun_max2,show vmxO p q=mxI p q by unfold vmxO mxI;split<;>omega]
theorem badI_no(b:Int):badI b false=mnI (b+1) 10:=rfl
theorem outB_no(b c:Int):outB b false c=decide (c≤mnI (b+1) 10):=by rw[outB,badI_no];rfl
theorem voted_any(b:Nat→Int)(o:Nat→Bool)(l m c:Int)(t:Nat→Bool)(s:Nat→Int)(hf:Fit t o s)(hb:∀k,k<3→0≤b k∧b k≤10)(hl0:-1000000≤l)(hl1:l≤1000000)(hm0:0≤m)(hm1:m≤1000000)(w:World):
 Calls prog 92 #[.agg (Qap b o l),.agg #[Vi m,Vi c],.agg (Qav t s)] w
  (Rt w (.tuple #[.agg #[Vi (nbI t o s b (votI t o s l) m 0),Vi (nbI t o s b (votI t o s l) m 1),Vi (nbI t o s b (votI t o s l) m 2),.bool (noB t o s b (votI t o s l) m c 0),.bool (noB t o s b (votI t o s l) m c 1),.bool (noB t o s b (votI t o s l) m c 2),Vi (votI t o s l)],.agg #[Vi (votI t o s l),Vi (Zv t o 3)]])):=by
 have HX:=Za (st_new w b o l m c t s);have HF:=Za hf;have Hb:=Za hb;clear hf hb
 go_enter func92,ntmps92
 go_wp2
 go_loopw [8,9,10,11,12] (fun n1 n2 n3 n4 i wr=>∃k:Nat,k≤3∧i=Vi k∧n1=Vi (Zv t o k)∧n2=Vi (Yt t o s k)∧n3=Vi (Yw t o s k)∧n4=Vi (sumU t o s k)∧StAt w wr b o l m c t s) (fun _ _ _ _ i _=>3-(intOf i).toNat)
 case atStart=>exact⟨0,by omega,rfl,rfl,rfl,rfl,rfl,HX.out⟩
 case round=>
  clear HX;obtain⟨k,hk,rfl,rfl,rfl,rfl,rfl,hst⟩:=hrel
  by_cases hlt:k<3
  · have c1:=hst.2.2.1.there k hlt;have c2:=hst.2.2.1.is k hlt;have c3:=hst.1.1.out k hlt;have d1:=manyU_bd t o k;have d2:=sumU_bd HF.out k (by omega);have hcnt:=HF.out k hlt;have HS:=Za (show Zv t o (k+1)=(if cntB t o k then Zv t o k+1 else Zv t o k)∧sumU t o s (k+1)=(if cntB t o k then sumU t o s k+s k else sumU t o s k)∧Yt t o s (k+1)=(if cntB t o k then mnI (Yt t o s k) (s k) else Yt t o s k)∧Yw t o s (k+1)=(if cntB t o k then mxI (Yw t o s k) (s k) else Yw t o s k) from⟨rfl,rfl,rfl,rfl⟩)
    unfold cntB at hcnt HS
    have ST:=Za hst;clear hst
    have i0:(0:Int)≤(k:Int):=by omega
    have i1:(k:Int)<3:=by omega
    generalize Zv t o k=n at *;generalize sumU t o s k=q at *;generalize Yt t o s k=p1 at *;generalize Yw t o s k=p2 at*
    cases h1:t k
    · rw[h1] at c1;rw[h1] at HS;clear hcnt;go_wp2;go_roundw
      case rel=>exact⟨k+1,by omega,by go_num,by rw[HS.out.1];rfl,by rw[HS.out.2.2.1];rfl,by rw[HS.out.2.2.2];rfl,by rw[HS.out.2.1];rfl,ST.out⟩
      case measure=>simp[intOf];omega
    · rw[h1] at c1
      cases h2:o k
      · have hs:=hcnt (by simp[h1,h2]);rw[h2] at c3;rw[h1,h2] at HS;clear hcnt;have hmn:=vrun_min;have hmx:=vrun_max
        have hw1:=Wr (q+s k)
        generalize s k=z at *;go_wp2
        go_region
        all_goals
         go_wp2;go_roundw
         (case rel=>exact⟨k+1,by omega,by go_num,by rw[HS.out.1];rfl,by rw[HS.out.2.2.1];rfl,by rw[HS.out.2.2.2];rfl,by rw[HS.out.2.1];rfl,ST.out.later (Below.refl _ _).drew⟩)
         (case measure=>simp[intOf];omega)
      · rw[h2] at c3;rw[h1,h2] at HS;clear hcnt;go_wp2;go_roundw
        case rel=>exact⟨k+1,by omega,by go_num,by rw[HS.out.1];rfl,by rw[HS.out.2.2.1];rfl,by rw[HS.out.2.2.2];rfl,by rw[HS.out.2.1];rfl,ST.out⟩
        case measure=>simp[intOf];omega
  · have e:k=3:=by omega
    subst e;have d2:=sumU_bd HF.out 3 (by omega);have d3:=leastU_bd HF.out 3 (by omega);have d4:=mostU_bd HF.out 3 (by omega);have d1:=manyU_bd t o 3;have hv:=votI_bd HF.out hl0 hl1;have HV:=Za (show votI t o s l=(if Zv t o 3=1 then sumU t o s 3 else if Zv t o 3=2 then sumU t o s 3/2 else if Zv t o 3=3 then sumU t o s 3-Yt t o s 3-Yw t o s 3 else l) from rfl);rw[show((3:Nat):Int)=3 from rfl];obtain⟨v,hv'⟩:∃v,v=votI t o s l:=⟨_,rfl⟩;rw[←hv'] at hv HV;have Hc:=Za hv';clear hv';have ST:=Za hst;obtain⟨q0,q1,q2,q3,q4,q5,q6⟩:=hst.1.1;clear hst
    rcases(show Zv t o 3=0∨Zv t o 3=1∨Zv t o 3=2∨Zv t o 3=3 by omega) with hn|hn|hn|hn
    case' neg.inr.inr.inr=>
     rw[hn,if_neg (by decide),if_neg (by decide),if_pos rfl] at HV;rw[hn]
     have hw1:=Wr (sumU t o s 3-Yt t o s 3)
     have hw2:=Wr (sumU t o s 3-Yt t o s 3-Yw t o s 3)
     go_wp2;have ST2:=Za (ST.out.later (Zb wr (.cells #[Vi (sumU t o s 3-Yt t o s 3-Yw t o s 3),Vi 3] 187)));have R2:Hid (RuleAt (wr.alloc (.cells #[Vi (sumU t o s 3-Yt t o s 3-Yw t o s 3),Vi 3] 187)) wr.heap.size (sumU t o s 3-Yt t o s 3-Yw t o s 3) 3):=⟨by simp[go_sem],by simp[go_sem]⟩
     have NE:Hid (w.heap.size≠wr.heap.size):=by have:=ST.out.lt;show w.heap.size≠wr.heap.size;omega
     have LT:=Za ST.out.lt;generalize (wr.alloc (.cells #[Vi (sumU t o s 3-Yt t o s 3-Yw t o s 3),Vi 3] 187))=w5 at *;generalize hV:wr.heap.size=V at *;clear hV ST q0 q1 q2 q3 q4 q5 q6;obtain⟨n,hn3⟩:∃n:Int,n=3:=⟨_,rfl⟩;rw[←HV.out,←hn3] at R2
    case' neg.inr.inr.inl=>
     rw[hn,if_neg (by decide),if_pos rfl] at HV;rw[hn]
     go_wp2_with (go_at_call 141;refine Sm (down_any _ _ (by omega) (by omega) (by omega) (by omega) _) ?_);have ST2:=Za (ST.out.later (Zb wr (.cells #[Vi (sumU t o s 3/2),Vi 2] 187)));have R2:Hid (RuleAt (wr.alloc (.cells #[Vi (sumU t o s 3/2),Vi 2] 187)) wr.heap.size (sumU t o s 3/2) 2):=⟨by simp[go_sem],by simp[go_sem]⟩
     have NE:Hid (w.heap.size≠wr.heap.size):=by have:=ST.out.lt;show w.heap.size≠wr.heap.size;omega
     have LT:=Za ST.out.lt;generalize (wr.alloc (.cells #[Vi (sumU t o s 3/2),Vi 2] 187))=w5 at *;generalize hV:wr.heap.size=V at *;clear hV ST q0 q1 q2 q3 q4 q5 q6;obtain⟨n,hn3⟩:∃n:Int,n=2:=⟨_,rfl⟩;rw[←HV.out,←hn3] at R2
    case' neg.inr.inl=>
     rw[hn,if_pos rfl] at HV;rw[hn];go_wp2;have ST2:=Za (ST.out.later (Zb wr (.cells #[Vi (sumU t o s 3),Vi 1] 187)));have R2:Hid (RuleAt (wr.alloc (.cells #[Vi (sumU t o s 3),Vi 1] 187)) wr.heap.size (sumU t o s 3) 1):=⟨by simp[go_sem],by simp[go_sem]⟩
     have NE:Hid (w.heap.size≠wr.heap.size):=by have:=ST.out.lt;show w.heap.size≠wr.heap.size;omega
     have LT:=Za ST.out.lt;generalize (wr.alloc (.cells #[Vi (sumU t o s 3),Vi 1] 187))=w5 at *;generalize hV:wr.heap.size=V at *;clear hV ST q0 q1 q2 q3 q4 q5 q6;obtain⟨n,hn3⟩:∃n:Int,n=1:=⟨_,rfl⟩;rw[←HV.out,←hn3] at R2
    case' neg.inl=>
     rw[hn,if_neg (by decide),if_neg (by decide),if_neg (by decide)] at HV;rw[hn];go_wp2;have ST2:=Za (ST.out.later (Zb wr (.cells #[Vi l,Vi 0] 187)));have R2:Hid (RuleAt (wr.alloc (.cells #[Vi l,Vi 0] 187)) wr.heap.size l 0):=⟨by simp[go_sem],by simp[go_sem]⟩
     have NE:Hid (w.heap.size≠wr.heap.size):=by have:=ST.out.lt;show w.heap.size≠wr.heap.size;omega
     have LT:=Za ST.out.lt;generalize (wr.alloc (.cells #[Vi l,Vi 0] 187))=w5 at *;generalize hV:wr.heap.size=V at *;clear hV ST q0 q1 q2 q3 q4 q5 q6;obtain⟨n,hn3⟩:∃n:Int,n=0:=⟨_,rfl⟩;rw[←HV.out,←hn3] at R2
    all_goals
     go_loopw [14] (fun i wr2=>∃k:Nat,k≤3∧i=Vi k∧StAt w wr2 (mixI k (nbI t o s b v m) b) (mixB k (noB t o s b v m c) o) l m c t s∧RuleAt wr2 V v n) (fun i _=>3-(intOf i).toNat)
     case atStart=>exact⟨0,by omega,rfl,by rw[mixI_zero,mixB_zero];exact ST2.out,R2.out⟩
     case round=>
      clear ST2 R2
      rename_i w6 _
      obtain⟨k,hk,rfl,hst,hvt⟩:=hrel
      by_cases hlt:k<3
      · have c1:=hst.2.2.1.there k hlt;have c2:=hst.2.2.1.is k hlt;have c3:=hst.1.1.out k hlt;have c4:=hst.1.1.bad k hlt;have r0:=hst.2.1.1;have r1:=hst.2.1.2;have z1:=hst.1.2.1 k (by omega);have z2:=hst.1.2.1 (3+k) (by omega);have vt:=hvt.1;rw[mixB_at] at c3;rw[mixI_at] at c4;have bd:=Hb.out k hlt
        have i0:(0:Int)≤(k:Int):=by omega
        have i1:(k:Int)<3:=by omega
        have HN:=Za (show nbI t o s b v m k=(if o k then b k else badI (b k) (fineB (t k) (s k) v m))∧noB t o s b v m c k=(if o k then true else outB (b k) (fineB (t k) (s k) v m) c) from⟨rfl,rfl⟩);have STK:=Za hst;have RK:=Za hvt;clear hst hvt
        cases h2:o k
        · rw[h2] at c3;rw[h2] at HN
          cases h1:t k
          · rw[h1] at c1;rw[h1] at HN;have hmn:=vrun_min;have hbad:Hid (nbI t o s b v m k=mnI (b k+1) 10):=HN.out.1.trans (badI_no _);have hout:Hid (noB t o s b v m c k=decide (c≤mnI (b k+1) 10)):=HN.out.2.trans (outB_no _ _);generalize b k=x at *;go_wp2;go_quiet (fail);go_wp2;generalize mnI (x+1) 10=y at*
            go_region
            all_goals
             go_wp2;go_roundw
             (case rel=>
              refine⟨k+1,by omega,by go_num,?_,?_⟩
              · rw[W4,W5,hbad.out,hout.out];exact((((STK.out.later (below_drewN (Below.refl _ _) _)).setBad k hlt _).setOut k hlt _).later (Below.refl _ _).drew)
              · exact(((RK.out.later (below_drewN (Below.refl _ _) _)).set NE.out).set NE.out).later (Below.refl _ _).drew)
             (case measure=>simp[intOf];omega)
          · rw[h1] at c1;rw[h1] at HN;have hbt:=Ux (s k) (v-m) (v+m);have hfn:Hid (fineB true (s k) v m=(decide (v-m≤s k)&&decide (s k≤v+m))):=rfl;generalize (decide (v-m≤s k)&&decide (s k≤v+m))=g at*
            have hw1:=Wr (v-m)
            have hw2:=Wr (v+m)
            cases g
            · have hmn:=vrun_min;have hbad:Hid (nbI t o s b v m k=mnI (b k+1) 10):=HN.out.1.trans (by rw[hfn.out];exact badI_no _);have hout:Hid (noB t o s b v m c k=decide (c≤mnI (b k+1) 10)):=HN.out.2.trans (by rw[hfn.out];exact outB_no _ _);generalize b k=x at *;generalize s k=z at *;go_wp2;go_quiet ((go_at_call 38;exact Calls.quiet_of_same (hbt _)));go_wp2;generalize mnI (x+1) 10=y at*
              go_region
              all_goals
               go_wp2;go_roundw
               (case rel=>
                refine⟨k+1,by omega,by go_num,?_,?_⟩
                · rw[W4,W5,hbad.out,hout.out];exact((((STK.out.later (below_drewN (Below.refl _ _) _)).setBad k hlt _).setOut k hlt _).later (Below.refl _ _).drew)
                · exact(((RK.out.later (below_drewN (Below.refl _ _) _)).set NE.out).set NE.out).later (Below.refl _ _).drew)
               (case measure=>simp[intOf];omega)
            · have hbad:Hid (nbI t o s b v m k=0):=HN.out.1.trans (by rw[hfn.out];rfl);have hout:Hid (noB t o s b v m c k=mixB k (noB t o s b v m c) o k):=HN.out.2.trans (by rw[hfn.out,mixB_at,h2];rfl);generalize b k=x at *;generalize s k=z at *;go_wp2;go_quiet ((go_at_call 38;exact Calls.quiet_of_same (hbt _)));go_wp2;go_roundw
              case rel=>
               refine⟨k+1,by omega,by go_num,?_,?_⟩
               · rw[W4,W5,hbad.out,hout.out,updB_same];exact(STK.out.later (below_drewN (Below.refl _ _) _)).setBad k hlt _
               · exact(RK.out.later (below_drewN (Below.refl _ _) _)).set NE.out
              case measure=>simp[intOf];omega
        · rw[h2] at c3;rw[h2] at HN;have hbad:Hid (nbI t o s b v m k=mixI k (nbI t o s b v m) b k):=HN.out.1.trans (by rw[mixI_at];rfl);have hout:Hid (noB t o s b v m c k=mixB k (noB t o s b v m c) o k):=HN.out.2.trans (by rw[mixB_at,h2];rfl);go_wp2;go_roundw
          case rel=>
           refine⟨k+1,by omega,by go_num,?_,RK.out⟩;rw[W4,W5,hbad.out,hout.out,updI_same,updB_same];exact STK.out
          case measure=>simp[intOf];omega
      · have e:k=3:=by omega
        subst e;have Ha:=Za (hst.setLast v);have q6:=hst.1.1.2.2.2.2.2.2;have z6:=hst.1.2.1 6 (by omega);have vt:=hvt.1;have Hd:=Za (hvt.set (q:=6) (v:=Vi v) NE.out);clear hst hvt
        go_upto_region 26 with fail;generalize hw7:(World.setCell _ _ (Vi v))=w7 at *;clear hw7 q6 z6 vt;obtain⟨⟨⟨q0,q1,q2,q3,q4,q5,q6⟩,_⟩,_,_,⟨⟨s0,s1,s2,s3,s4,s5,s6⟩,s7,_⟩,⟨⟨p0,p1⟩,p2,_⟩,hB⟩:=Ha.out;have f0:=s7 0 (by omega);have f1:=s7 1 (by omega);have f2:=s7 2 (by omega);have f3:=s7 3 (by omega);have f4:=s7 4 (by omega);have f5:=s7 5 (by omega);have f6:=s7 6 (by omega);have g0:=p2 0 (by omega);have g1:=p2 1 (by omega);obtain⟨v0,v1⟩:=Hd.out;have Hf:=Za hB;clear hB s7 p2;rw[show mixI 3 (nbI t o s b v m) b 0=nbI t o s b v m 0 from rfl] at q0;rw[show mixI 3 (nbI t o s b v m) b 1=nbI t o s b v m 1 from rfl] at q1;rw[show mixI 3 (nbI t o s b v m) b 2=nbI t o s b v m 2 from rfl] at q2;rw[show mixB 3 (noB t o s b v m c) o 0=noB t o s b v m c 0 from rfl] at q3;rw[show mixB 3 (noB t o s b v m c) o 1=noB t o s b v m c 1 from rfl] at q4;rw[show mixB 3 (noB t o s b v m c) o 2=noB t o s b v m c 2 from rfl] at q5;rw[show zI 0=0 from rfl] at s0;rw[show zI 1=0 from rfl] at s1;rw[show zI 2=0 from rfl] at s2;rw[show zB 0=false from rfl] at s3;rw[show zB 1=false from rfl] at s4;rw[show zB 2=false from rfl] at s5;have EV:=Za (show(v=votI t o s l)∧n=Zv t o 3 from⟨Hc.out,by rw[hn3,hn]⟩);obtain⟨y0,y1,y2,x0,x1,x2,EY⟩:∃y0 y1 y2 x0 x1 x2,Hid (nbI t o s b v m 0=y0∧nbI t o s b v m 1=y1∧nbI t o s b v m 2=y2∧noB t o s b v m c 0=x0∧noB t o s b v m c 1=x1∧noB t o s b v m c 2=x2):=⟨_,_,_,_,_,_,rfl,rfl,rfl,rfl,rfl,rfl⟩;rw[EY.out.1] at q0;rw[EY.out.2.1] at q1;rw[EY.out.2.2.1] at q2;rw[EY.out.2.2.2.1] at q3;rw[EY.out.2.2.2.2.1] at q4;rw[EY.out.2.2.2.2.2] at q5;have lt:=LT.out
        have n1:¬(w.heap.size+1+1+1=V):=by omega
        have n2:¬(V=w.heap.size+1+1+1):=by omega
        have n3:¬(w.heap.size+1+1+1+1=V):=by omega
        have n4:¬(V=w.heap.size+1+1+1+1):=by omega
        clear lt
        go_region
        all_goals
         go_wp2;have an:=Za (ansW_at Ha.out.2.2.2.1.1 Ha.out.2.2.2.2.1.1 (by omega) y0 y1 y2 x0 x1 x2 v v n);have bl:=Za (ansW_below Ha.out.2.2.2.2.2 (B:=w.heap.size+1+1+1) (C:=w.heap.size+1+1+1+1) (by omega) (by omega) y0 y1 y2 x0 x1 x2 v v n);rw[hn3] at an bl
         change bodyPost _ _ _ Exit.ret _ (ansW w7 (w.heap.size+1+1+1) (w.heap.size+1+1+1+1) y0 y1 y2 x0 x1 x2 v v _).drew
         generalize (ansW w7 (w.heap.size+1+1+1) (w.heap.size+1+1+1+1) y0 y1 y2 x0 x1 x2 v v _)=w9 at *;obtain⟨⟨c0,c1,c2,c3,c4,c5,c6⟩,d0,d1⟩:=an.out;exact bodyPost_ret (v:=.tuple #[.agg #[Vi y0,Vi y1,Vi y2,.bool x0,.bool x1,.bool x2,Vi v],.agg #[Vi v,Vi n]]) (by rw[hn3];simp[results,results92,go_sem,c0,c1,c2,c3,c4,c5,c6,d0,d1]) rfl ⟨by rw[←EV.out.1,←EV.out.2,EY.out.1,EY.out.2.1,EY.out.2.2.1,EY.out.2.2.2.1,EY.out.2.2.2.2.1,EY.out.2.2.2.2.2],bl.out.drew⟩
end Go.Proofs.YtnfdfiholcelaaaGreatDoor
