import Derived.Shelf.Sort.Plain
import Derived.Shelf.Slices.In.SortNone
import Derived.Sort.OwnSortedInts
import Derived.Deep.AppendLies
import Derived.OwnWalk
import Derived.Test.YtnfdfiholcelaaaGreatDoorJh00
import Derived.Test.YtnfdfiholcelaaaGreatDoorJh01
import Derived.Test.YtnfdfiholcelaaaGreatDoorJh04
import Derived.Test.YtnfdfiholcelaaaGreatDoorJh07
set_option maxRecDepth 100000
set_option maxHeartbeats 20000000
namespace Go.Proofs.YtnfdfiholcelaaaGreatDoor
open Go.RowKit Plain Tryz
def cntB(t o:Nat→Bool)(k:Nat):Bool:=t k&&!o k
def Zcb(t o:Nat→Bool):Nat→Int
 |0=>0
 |k+1=>if cntB t o k then Zcb t o k+1 else Zcb t o k
def sumU(t o:Nat→Bool)(s:Nat→Int):Nat→Int
 |0=>0
 |k+1=>if cntB t o k then sumU t o s k+s k else sumU t o s k
def mnI(x y:Int):Int:=if x≤y then x else y
def mxI(x y:Int):Int:=if x≤y then y else x
def Zci(t o:Nat→Bool)(s:Nat→Int):Nat→Int
 |0=>2147483647
 |k+1=>if cntB t o k then mnI (Zci t o s k) (s k) else Zci t o s k
def Zet(t o:Nat→Bool)(s:Nat→Int):Nat→Int
 |0=>-2147483647
 |k+1=>if cntB t o k then mxI (Zet t o s k) (s k) else Zet t o s k
def votI(t o:Nat→Bool)(s:Nat→Int)(l:Int):Int:=
 if Zcb t o 3=1 then sumU t o s 3 else if Zcb t o 3=2 then sumU t o s 3/2 else if Zcb t o 3=3 then sumU t o s 3-Zci t o s 3-Zet t o s 3 else l
theorem manyU_bd(t o:Nat→Bool):∀k:Nat,0≤Zcb t o k∧Zcb t o k≤k
 |0=>by simp[Zcb]
 |k+1=>by have:=manyU_bd t o k;simp only[Zcb];split<;>omega
def Fit(t o:Nat→Bool)(s:Nat→Int):Prop:=∀k,k<3→cntB t o k=true→-1000000≤s k∧s k≤1000000
theorem fit_of{t o:Nat→Bool}{s:Nat→Int}(h:Zgq t s 3=true):Fit t o s:=by
 intro k hk hc;exact sampU_true h k hk (by simp[cntB] at hc;exact hc.1)
theorem sumU_bd{t o:Nat→Bool}{s:Nat→Int}(h:Fit t o s):∀k:Nat,k≤3→-1000000*(k:Int)≤sumU t o s k∧sumU t o s k≤1000000*(k:Int)
 |0,_=>by simp[sumU]
 |k+1,hk=>by
  have ih:=sumU_bd h k (by omega);simp only[sumU]
  split
  · have:=h k (by omega) (by assumption);omega
  · omega
theorem leastU_bd{t o:Nat→Bool}{s:Nat→Int}(h:Fit t o s):∀k:Nat,k≤3→-1000000≤Zci t o s k∧Zci t o s k≤2147483647
 |0,_=>by simp[Zci]
 |k+1,hk=>by
  have ih:=leastU_bd h k (by omega);simp only[Zci,mnI]
  split
  · have:=h k (by omega) (by assumption);split<;>omega
  · omega
theorem mostU_bd{t o:Nat→Bool}{s:Nat→Int}(h:Fit t o s):∀k:Nat,k≤3→-2147483647≤Zet t o s k∧Zet t o s k≤1000000
 |0,_=>by simp[Zet]
 |k+1,hk=>by
  have ih:=mostU_bd h k (by omega);simp only[Zet,mxI]
  split
  · have:=h k (by omega) (by assumption);split<;>omega
  · omega
theorem mnI_of(x y:Int):mnI x y≤x∧mnI x y≤y∧(mnI x y=x∨mnI x y=y):=by unfold mnI;split<;>omega
theorem mxI_of(x y:Int):x≤mxI x y∧y≤mxI x y∧(mxI x y=x∨mxI x y=y):=by unfold mxI;split<;>omega
theorem mid_bd(x y z:Int)(hx:-1000000≤x∧x≤1000000)(hy:-1000000≤y∧y≤1000000)(hz:-1000000≤z∧z≤1000000):
 -1000000≤x+y+z-mnI (mnI (mnI 2147483647 x) y) z-mxI (mxI (mxI (-2147483647) x) y) z∧x+y+z-mnI (mnI (mnI 2147483647 x) y) z-mxI (mxI (mxI (-2147483647) x) y) z≤1000000:=by
 have e1:=mnI_of 2147483647 x;have e2:=mnI_of (mnI 2147483647 x) y;have e3:=mnI_of (mnI (mnI 2147483647 x) y) z;have f1:=mxI_of (-2147483647) x;have f2:=mxI_of (mxI (-2147483647) x) y;have f3:=mxI_of (mxI (mxI (-2147483647) x) y) z;generalize mnI (mnI (mnI 2147483647 x) y) z=p3 at *;generalize mnI (mnI 2147483647 x) y=p2 at *;generalize mnI 2147483647 x=p1 at *;generalize mxI (mxI (mxI (-2147483647) x) y) z=q3 at *;generalize mxI (mxI (-2147483647) x) y=q2 at *;generalize mxI (-2147483647) x=q1 at*
 omega
theorem votI_bd{t o:Nat→Bool}{s:Nat→Int}{l:Int}(h:Fit t o s)(h0:-1000000≤l)(h1:l≤1000000):-1000000≤votI t o s l∧votI t o s l≤1000000:=by
 have a0:=h 0 (by omega);have a1:=h 1 (by omega);have a2:=h 2 (by omega)
 cases c0:cntB t o 0<;>cases c1:cntB t o 1<;>cases c2:cntB t o 2<;>(try replace a0:=a0 c0)<;>(try replace a1:=a1 c1)<;>(try replace a2:=a2 c2)
 case true.true.true=>
  have:=mid_bd (s 0) (s 1) (s 2) a0 a1 a2
  simpa[votI,Zcb,sumU,Zci,Zet,c0,c1,c2] using this
 all_goals
  simp[votI,Zcb,sumU,c0,c1,c2]
  omega
def nbI(t o:Nat→Bool)(s b:Nat→Int)(v m:Int)(k:Nat):Int:=if o k then b k else badI (b k) (fineB (t k) (s k) v m)
def noB(t o:Nat→Bool)(s b:Nat→Int)(v m c:Int)(k:Nat):Bool:=if o k then true else outB (b k) (fineB (t k) (s k) v m) c
def mixI(k:Nat)(f g:Nat→Int)(j:Nat):Int:=if j<k then f j else g j
def mixB(k:Nat)(f g:Nat→Bool)(j:Nat):Bool:=if j<k then f j else g j
def updI(g:Nat→Int)(k:Nat)(v:Int)(j:Nat):Int:=if j=k then v else g j
def updB(g:Nat→Bool)(k:Nat)(v:Bool)(j:Nat):Bool:=if j=k then v else g j
theorem Zeh(k:Nat)(f g:Nat→Int):mixI (k+1) f g=updI (mixI k f g) k (f k):=by
 funext j;simp only[mixI,updI];by_cases h1:j=k
 · subst h1;simp
 · by_cases h2:j<k
   · rw[if_pos (by omega),if_neg h1,if_pos h2]
   · rw[if_neg (by omega),if_neg h1,if_neg h2]
theorem Zei(k:Nat)(f g:Nat→Bool):mixB (k+1) f g=updB (mixB k f g) k (f k):=by
 funext j;simp only[mixB,updB];by_cases h1:j=k
 · subst h1;simp
 · by_cases h2:j<k
   · rw[if_pos (by omega),if_neg h1,if_pos h2]
   · rw[if_neg (by omega),if_neg h1,if_neg h2]
theorem mixI_at(k:Nat)(f g:Nat→Int):mixI k f g k=g k:=by unfold mixI;rw[if_neg (Nat.lt_irrefl _)]
theorem mixB_at(k:Nat)(f g:Nat→Bool):mixB k f g k=g k:=by unfold mixB;rw[if_neg (Nat.lt_irrefl _)]
theorem mixI_zero(f g:Nat→Int):mixI 0 f g=g:=by funext j;unfold mixI;rw[if_neg (Nat.not_lt_zero _)]
theorem mixB_zero(f g:Nat→Bool):mixB 0 f g=g:=by funext j;unfold mixB;rw[if_neg (Nat.not_lt_zero _)]
theorem updI_same(g:Nat→Int)(k:Nat):updI g k (g k)=g:=by funext j;unfold updI;split<;>simp_all
theorem updB_same(g:Nat→Bool)(k:Nat):updB g k (g k)=g:=by funext j;unfold updB;split<;>simp_all
def Frz(w:World)(B n:Nat):Prop:=(∀j,j<n→w.frozen? (Ad B j)=false)∧B<w.heap.size
theorem Frz.later{w w':World}{B n:Nat}(h:Frz w B n)(hb:Below w.heap.size w w'):Frz w' B n:=
 ⟨fun j hj=>(hb.frozen (p:=⟨B,j,none⟩) h.2).trans (h.1 j hj),Nat.lt_of_lt_of_le h.2 hb.size⟩
theorem Frz.set{w:World}{B n C q:Nat}{v:Value}(h:Frz w B n):Frz (w.setCell (Ad C q) v) B n:=
 ⟨fun j hj=>by simpa[go_sem] using h.1 j hj,by simpa[go_sem] using h.2⟩
theorem BankAt.bad{w:World}{B:Nat}{b o l}(h:BankAt w B b o l)(k:Nat)(hk:k<3):w.cell? (Ad B k)=some (Vi (b k)):=by
 obtain⟨h0,h1,h2,h3,h4,h5,h6⟩:=h
 rcases(show k=0∨k=1∨k=2 by omega) with rfl|rfl|rfl<;>assumption
theorem BankAt.out{w:World}{B:Nat}{b o l}(h:BankAt w B b o l)(k:Nat)(hk:k<3):w.cell? (Ad B (3+k))=some (.bool (o k)):=by
 obtain⟨h0,h1,h2,h3,h4,h5,h6⟩:=h
 rcases(show k=0∨k=1∨k=2 by omega) with rfl|rfl|rfl<;>assumption
theorem SampAt.there{w:World}{B:Nat}{t s}(h:SampAt w B t s)(k:Nat)(hk:k<3):w.cell? (Ad B (k*2))=some (.bool (t k)):=by
 obtain⟨h0,h1,h2,h3,h4,h5⟩:=h
 rcases(show k=0∨k=1∨k=2 by omega) with rfl|rfl|rfl<;>assumption
theorem SampAt.is{w:World}{B:Nat}{t s}(h:SampAt w B t s)(k:Nat)(hk:k<3):w.cell? (Ad B (k*2+1))=some (Vi (s k)):=by
 obtain⟨h0,h1,h2,h3,h4,h5⟩:=h
 rcases(show k=0∨k=1∨k=2 by omega) with rfl|rfl|rfl<;>assumption
theorem RuleAt.set{w:World}{B C q:Nat}{m c v}(h:RuleAt w B m c)(hc:C≠B):RuleAt (w.setCell (Ad C q) v) B m c:=
 ⟨Zad h.1 (Zau hc),Zad h.2 (Zau hc)⟩
theorem SampAt.set{w:World}{B C q:Nat}{t s v}(h:SampAt w B t s)(hc:C≠B):SampAt (w.setCell (Ad C q) v) B t s:=by
 obtain⟨h0,h1,h2,h3,h4,h5⟩:=h;exact⟨Zad h0 (Zau hc),Zad h1 (Zau hc),Zad h2 (Zau hc),Zad h3 (Zau hc),Zad h4 (Zau hc),Zad h5 (Zau hc)⟩
theorem BankAt.set{w:World}{B C q:Nat}{b o l v}(h:BankAt w B b o l)(hc:C≠B):BankAt (w.setCell (Ad C q) v) B b o l:=by
 obtain⟨h0,h1,h2,h3,h4,h5,h6⟩:=h;exact⟨Zad h0 (Zau hc),Zad h1 (Zau hc),Zad h2 (Zau hc),Zad h3 (Zau hc),Zad h4 (Zau hc),Zad h5 (Zau hc),Zad h6 (Zau hc)⟩
theorem BankAt.setBad0{w:World}{B:Nat}{b o l}(h:BankAt w B b o l)(v:Int):BankAt (w.setCell (Ad B 0) (Vi v)) B (updI b 0 v) o l:=by
 obtain⟨h0,h1,h2,h3,h4,h5,h6⟩:=h
 unfold BankAt
 rw[show updI b 0 v 0=v from if_pos rfl,show updI b 0 v 1=b 1 from if_neg (by decide),show updI b 0 v 2=b 2 from if_neg (by decide)];exact⟨Zao h0,Zad h1 (Zai (by decide)),Zad h2 (Zai (by decide)),Zad h3 (Zai (by decide)),Zad h4 (Zai (by decide)),Zad h5 (Zai (by decide)),Zad h6 (Zai (by decide))⟩
theorem BankAt.setOut0{w:World}{B:Nat}{b o l}(h:BankAt w B b o l)(v:Bool):BankAt (w.setCell (Ad B 3) (.bool v)) B b (updB o 0 v) l:=by
 obtain⟨h0,h1,h2,h3,h4,h5,h6⟩:=h
 unfold BankAt
 rw[show updB o 0 v 0=v from if_pos rfl,show updB o 0 v 1=o 1 from if_neg (by decide),show updB o 0 v 2=o 2 from if_neg (by decide)];exact⟨Zad h0 (Zai (by decide)),Zad h1 (Zai (by decide)),Zad h2 (Zai (by decide)),Zao h3,Zad h4 (Zai (by decide)),Zad h5 (Zai (by decide)),Zad h6 (Zai (by decide))⟩
theorem BankAt.setBad1{w:World}{B:Nat}{b o l}(h:BankAt w B b o l)(v:Int):BankAt (w.setCell (Ad B 1) (Vi v)) B (updI b 1 v) o l:=by
 obtain⟨h0,h1,h2,h3,h4,h5,h6⟩:=h
 unfold BankAt
 rw[show updI b 1 v 0=b 0 from if_neg (by decide),show updI b 1 v 1=v from if_pos rfl,show updI b 1 v 2=b 2 from if_neg (by decide)];exact⟨Zad h0 (Zai (by decide)),Zao h1,Zad h2 (Zai (by decide)),Zad h3 (Zai (by decide)),Zad h4 (Zai (by decide)),Zad h5 (Zai (by decide)),Zad h6 (Zai (by decide))⟩
theorem BankAt.setOut1{w:World}{B:Nat}{b o l}(h:BankAt w B b o l)(v:Bool):BankAt (w.setCell (Ad B 4) (.bool v)) B b (updB o 1 v) l:=by
 obtain⟨h0,h1,h2,h3,h4,h5,h6⟩:=h
 unfold BankAt
 rw[show updB o 1 v 0=o 0 from if_neg (by decide),show updB o 1 v 1=v from if_pos rfl,show updB o 1 v 2=o 2 from if_neg (by decide)];exact⟨Zad h0 (Zai (by decide)),Zad h1 (Zai (by decide)),Zad h2 (Zai (by decide)),Zad h3 (Zai (by decide)),Zao h4,Zad h5 (Zai (by decide)),Zad h6 (Zai (by decide))⟩
theorem BankAt.setBad2{w:World}{B:Nat}{b o l}(h:BankAt w B b o l)(v:Int):BankAt (w.setCell (Ad B 2) (Vi v)) B (updI b 2 v) o l:=by
 obtain⟨h0,h1,h2,h3,h4,h5,h6⟩:=h
 unfold BankAt
 rw[show updI b 2 v 0=b 0 from if_neg (by decide),show updI b 2 v 1=b 1 from if_neg (by decide),show updI b 2 v 2=v from if_pos rfl];exact⟨Zad h0 (Zai (by decide)),Zad h1 (Zai (by decide)),Zao h2,Zad h3 (Zai (by decide)),Zad h4 (Zai (by decide)),Zad h5 (Zai (by decide)),Zad h6 (Zai (by decide))⟩
theorem BankAt.setOut2{w:World}{B:Nat}{b o l}(h:BankAt w B b o l)(v:Bool):BankAt (w.setCell (Ad B 5) (.bool v)) B b (updB o 2 v) l:=by
 obtain⟨h0,h1,h2,h3,h4,h5,h6⟩:=h
 unfold BankAt
 rw[show updB o 2 v 0=o 0 from if_neg (by decide),show updB o 2 v 1=o 1 from if_neg (by decide),show updB o 2 v 2=v from if_pos rfl];exact⟨Zad h0 (Zai (by decide)),Zad h1 (Zai (by decide)),Zad h2 (Zai (by decide)),Zad h3 (Zai (by decide)),Zad h4 (Zai (by decide)),Zao h5,Zad h6 (Zai (by decide))⟩
theorem BankAt.setBad{w:World}{B:Nat}{b o l}(h:BankAt w B b o l)(k:Nat)(hk:k<3)(v:Int):BankAt (w.setCell (Ad B k) (Vi v)) B (updI b k v) o l:=by
 rcases(show k=0∨k=1∨k=2 by omega) with rfl|rfl|rfl
 · exact h.setBad0 v
 · exact h.setBad1 v
 · exact h.setBad2 v
theorem BankAt.setOut{w:World}{B:Nat}{b o l}(h:BankAt w B b o l)(k:Nat)(hk:k<3)(v:Bool):BankAt (w.setCell (Ad B (3+k)) (.bool v)) B b (updB o k v) l:=by
 rcases(show k=0∨k=1∨k=2 by omega) with rfl|rfl|rfl
 · exact h.setOut0 v
 · exact h.setOut1 v
 · exact h.setOut2 v
theorem BankAt.setLast{w:World}{B:Nat}{b o l}(h:BankAt w B b o l)(v:Int):BankAt (w.setCell (Ad B 6) (Vi v)) B b o v:=by
 obtain⟨h0,h1,h2,h3,h4,h5,h6⟩:=h;exact⟨Zad h0 (Zai (by decide)),Zad h1 (Zai (by decide)),Zad h2 (Zai (by decide)),Zad h3 (Zai (by decide)),Zad h4 (Zai (by decide)),Zad h5 (Zai (by decide)),Zao h6⟩
def svL:List Sv→List Value
 |[]=>[]
 |s::r=>Vi s.1::Vi s.2.1::.bool s.2.2::svL r
theorem heap_far{b V:Nat}(hV:b≠V):∀(vs:List Value) (o:Nat) (u:World),(u.setCells V o vs).heap[b]?=u.heap[b]?
 |[],_,_=>rfl
 |v::r,o,u=>(heap_far hV r (o+1) (u.setCell ⟨V,o,none⟩ v)).trans (heap_setCell_other u ⟨V,o,none⟩ b v hV)
structure FR (K:Nat) (w0 u:World) (B:Nat) (S:FS) (C:CR) (a:Option Addr) (cap:Nat) (l:List Rd) (sv:Nat→List Sv) (G:Nat→Nat):Prop where
 blk:Blk 146 u B (frL S C (.slice a l.length cap))
 rds:Rds u a l
 low:Below K w0 u
 base:K≤B
 far:∀g,a=some (Ad g 0)→l≠[]→g≠B
 servo:∀i,i<2→S.sp i=some (Ad (G i) 0)∧S.sn i=(sv i).length∧Blk 116 u (G i) (svL (sv i))∧K≤G i∧G i≠B∧∀g,a=some (Ad g 0)→l≠[]→g≠G i
 two:G 0≠G 1
 many:l.length≤1000
 oth:∀b,b<w0.heap.size→b≠B→b≠G 0→b≠G 1→u.heap[b]?=w0.heap[b]?
section
variable {K : Nat} {w0 u u' : World} {B : Nat} {S : FS} {C : CR} {a : Option Addr} {cap : Nat} {l : List Rd} {sv : Nat → List Sv} {G : Nat → Nat}
theorem FR.later(h:FR K w0 u B S C a cap l sv G)(hb:Below u.heap.size u u'):FR K w0 u' B S C a cap l sv G:=
 ⟨h.blk.later hb,h.rds.later hb,h.low.trans (hb.mono (Nat.le_trans h.base (Nat.le_of_lt h.blk.lt))),h.base,h.far,fun i hi=>⟨(h.servo i hi).1,(h.servo i hi).2.1,(h.servo i hi).2.2.1.later hb,(h.servo i hi).2.2.2⟩,h.two,h.many,fun b h1 h2 h3 h4=>(hb.block b (Nat.lt_of_lt_of_le h1 h.low.size)).trans (h.oth b h1 h2 h3 h4)⟩
theorem FR.said(h:FR K w0 u B S C a cap l sv G):u.cell? (Ad B 62)=some (.slice a l.length cap):=(h.blk.cell (fr_said S C _)).1
theorem FR.rebase(h:FR K w0 u B S C a cap l sv G):FR K u u B S C a cap l sv G:=⟨h.blk,h.rds,Below.refl _ _,h.base,h.far,h.servo,h.two,h.many,fun _ _ _ _ _=>rfl⟩
theorem FR.lt(h:FR K w0 u B S C a cap l sv G):B<u.heap.size:=h.blk.lt
theorem Zbe{V:Nat}(hV:∀g,a=some (Ad g 0)→l≠[]→g≠V):∀(vs:List Value) (o:Nat) (u:World),Rds u a l→Rds (u.setCells V o vs) a l
 |[],_,_,h=>h
 |v::r,o,u,h=>Zbe hV r (o+1) (u.setCell ⟨V,o,none⟩ v) (Zdn hV h)
theorem FR.put(h:FR K w0 u B S C a cap l sv G)(S':FS)(vs:List Value)(o:Nat)(he:putL (frL S C (.slice a l.length cap)) o vs=frL S' C (.slice a l.length cap))(hs:S'.sp=S.sp∧S'.sn=S.sn):FR K w0 (u.setCells B o vs) B S' C a cap l sv G:=
 ⟨he▸Blk.setCells vs o u _ h.blk,Zbe h.far vs o u h.rds,Zag vs o u h.low h.base,h.base,h.far,fun i hi=>⟨by rw[hs.1];exact(h.servo i hi).1,by rw[hs.2];exact(h.servo i hi).2.1,Blk.farCells (h.servo i hi).2.2.2.2.1 vs o u (h.servo i hi).2.2.1,(h.servo i hi).2.2.2⟩,h.two,h.many,fun b h1 h2 h3 h4=>(heap_far h2 vs o u).trans (h.oth b h1 h2 h3 h4)⟩
end
def tS(l:List Rd)(x:Int)(k:Nat):Bool:=if k=0 then(smp l x 0).1 else if k=1 then(smp l x 1).1 else(smp l x 2).1
def sS(l:List Rd)(x:Int)(k:Nat):Int:=if k=0 then(smp l x 0).2 else if k=1 then(smp l x 1).2 else(smp l x 2).2
theorem smL_eq(l:List Rd)(x:Int):smL l x=[.bool (tS l x 0),Vi (sS l x 0),.bool (tS l x 1),Vi (sS l x 1),.bool (tS l x 2),Vi (sS l x 2)]:=rfl
def vbk(k:Bk)(m c:Int)(t:Nat→Bool)(s:Nat→Int):Bk:=⟨nbI t k.o s k.b (votI t k.o s k.l) m,noB t k.o s k.b (votI t k.o s k.l) m c,votI t k.o s k.l⟩
end Go.Proofs.YtnfdfiholcelaaaGreatDoor
namespace Go.Proofs.YtnfdfiholcelaaaGreatDoor
open Go.Shelf Tryz
def sortL_ren:Go.Shelf.Ren:=⟨fun|189=>239|125=>237|257=>262|128=>260|129=>261|294=>272|295=>273|296=>274|297=>275|298=>276|299=>277|216=>278|300=>279|301=>280|328=>285|329=>268|330=>269|331=>286|332=>287|215=>238|343=>289|n=>n,fun|28=>22|3=>3|46=>229|0=>0|51=>136|53=>363|4=>4|183=>357|182=>356|131=>308|5=>5|9=>9|218=>371|222=>375|228=>385|229=>386|n=>n,fun|n=>n⟩
theorem sortL:Go.Proofs.Lays.n189 prog sortL_ren:={
 mixed:=by kernel_rfl
 f125:=func237.trans (congrArg some (by kernel_rfl))
 f128:=func260.trans (congrArg some (by kernel_rfl))
 f129:=func261.trans (congrArg some (by kernel_rfl))
 f189:=func239.trans (congrArg some (by kernel_rfl))
 f215:=func238.trans (congrArg some (by kernel_rfl))
 f216:=func278.trans (congrArg some (by kernel_rfl))
 f257:=func262.trans (congrArg some (by kernel_rfl))
 f294:=func272.trans (congrArg some (by kernel_rfl))
 f295:=func273.trans (congrArg some (by kernel_rfl))
 f296:=func274.trans (congrArg some (by kernel_rfl))
 f297:=func275.trans (congrArg some (by kernel_rfl))
 f298:=func276.trans (congrArg some (by kernel_rfl))
 f299:=func277.trans (congrArg some (by kernel_rfl))
 f300:=func279.trans (congrArg some (by kernel_rfl))
 f301:=func280.trans (congrArg some (by kernel_rfl))
 f328:=func285.trans (congrArg some (by kernel_rfl))
 f329:=func268.trans (congrArg some (by kernel_rfl))
 f330:=func269.trans (congrArg some (by kernel_rfl))
 f331:=func286.trans (congrArg some (by kernel_rfl))
 f332:=func287.trans (congrArg some (by kernel_rfl))
 f343:=func289.trans (congrArg some (by kernel_rfl))
 t0:=underlying0
 a0:=Tryz.isAgg0
 z0:=Tryz.sizeOf0
 v0:=Tryz.zeroValue0
 t3:=underlying3
 a3:=Tryz.isAgg3
 z3:=Tryz.sizeOf3
 v3:=Tryz.zeroValue3
 t4:=underlying4
 a4:=Tryz.isAgg4
 z4:=Tryz.sizeOf4
 v4:=Tryz.zeroValue4
 t5:=underlying5
 a5:=Tryz.isAgg5
 z5:=Tryz.sizeOf5
 v5:=Tryz.zeroValue5
 t9:=underlying9
 a9:=Tryz.isAgg9
 z9:=Tryz.sizeOf9
 v9:=Tryz.zeroValue9
 t28:=underlying22
 a28:=Tryz.isAgg22
 z28:=Tryz.sizeOf22
 v28:=Tryz.zeroValue22
 t46:=underlying229
 a46:=Tryz.isAgg229
 z46:=Tryz.sizeOf229
 v46:=Tryz.zeroValue229
 t51:=underlying136
 a51:=Tryz.isAgg136
 z51:=Tryz.sizeOf136
 v51:=Tryz.zeroValue136
 t53:=underlying363
 a53:=Tryz.isAgg363
 z53:=Tryz.sizeOf363
 v53:=Tryz.zeroValue363
 t131:=underlying308
 a131:=Tryz.isAgg308
 z131:=Tryz.sizeOf308
 v131:=Tryz.zeroValue308
 t182:=underlying356
 a182:=Tryz.isAgg356
 z182:=Tryz.sizeOf356
 v182:=Tryz.zeroValue356
 t183:=underlying357
 a183:=Tryz.isAgg357
 z183:=Tryz.sizeOf357
 v183:=Tryz.zeroValue357
 t218:=underlying371
 a218:=Tryz.isAgg371
 z218:=Tryz.sizeOf371
 v218:=Tryz.zeroValue371
 t222:=underlying375
 a222:=Tryz.isAgg375
 z222:=Tryz.sizeOf375
 v222:=Tryz.zeroValue375
 t228:=underlying385
 a228:=Tryz.isAgg385
 z228:=Tryz.sizeOf385
 v228:=Tryz.zeroValue385
 t229:=underlying386
 a229:=Tryz.isAgg386
 z229:=Tryz.sizeOf386
 v229:=Tryz.zeroValue386 }
open Go.Sort Go.RowKit Tryz in
theorem sort_int(blk off cap:Nat)(zs:List Int)(w:World)(hH:Holds (Value.int .i64) w blk off zs.toArray)(hblk:blk<w.heap.size)(hsz:zs.length<4611686018427387904):
 Calls prog 239 #[.slice (some (Ad blk off)) zs.length cap] w fun e w'=>
  e=.returned (.tuple #[])∧∃n os,w'=grow (putRow (Value.int .i64) (Sort.ahead w n) blk off (zs.mergeSort fun x y=>decide (x≤y)).toArray) os:=Any.slices_Sort_int sortL blk off cap zs w hH hblk hsz
open Go.Sort Go.RowKit Tryz in
theorem sort_none(p:Option Addr)(cap:Nat)(w:World):
 Calls prog 239 #[.slice p 0 cap] w fun e w'=>e=.returned (.tuple #[])∧w'=w:=Any.slices_Sort_int_none sortL p cap w
end Go.Proofs.YtnfdfiholcelaaaGreatDoor
namespace Go.Proofs.YtnfdfiholcelaaaGreatDoor
open Go.RowKit Plain Tryz
theorem infoInt:(prog.info? 3).map (fun i=>(i.zero,i.size,i.bytes))=some (some (Vi 0),1,8):=by kernel_rfl
def cntL(t o:Nat→Bool)(s:Nat→Int):Nat→List Int
 |0=>[]
 |k+1=>if cntB t o k then cntL t o s k++[s k] else cntL t o s k
theorem cntL_len(t o:Nat→Bool)(s:Nat→Int):∀k:Nat,(cntL t o s k).length≤k
 |0=>by simp[cntL]
 |k+1=>by have:=cntL_len t o s k;simp only[cntL];split<;>simp<;>omega
def risL(l:List Int):List Int:=l.mergeSort fun x y=>decide (x≤y)
theorem risL_len(l:List Int):(risL l).length=l.length:=List.length_mergeSort l
theorem owns_base{w:World}{B B':Nat}{e:TypeId}{size:Nat}{v:Value}{n:Nat}{xs:List Value}(h:w.ownsRow B e size v n xs)(hb:B'≤B):w.ownsRow B' e size v n xs:=by
 refine⟨h.1,?_⟩
 rcases h.2 with h|⟨g,cap,cur,h1,h2,h3⟩
 · exact .inl h
 · exact .inr ⟨g,cap,cur,h1,Nat.le_trans hb h2,h3⟩
theorem counting_any(b:Nat→Int)(o:Nat→Bool)(l:Int)(t:Nat→Bool)(s:Nat→Int)(w:World):
 Calls prog 212 #[.agg #[Vi (b 0),Vi (b 1),Vi (b 2),.bool (o 0),.bool (o 1),.bool (o 2),Vi l],.agg #[.bool (t 0),Vi (s 0),.bool (t 1),Vi (s 1),.bool (t 2),Vi (s 2)]] w
  fun e w'=>(∃v,e=.returned v∧w'.ownsRow w.heap.size 3 1 v (risL (cntL t o s 3)).length ((risL (cntL t o s 3)).map (Value.int .i64)))∧Below w.heap.size w w':=by
 obtain⟨i0,hi,hz0,hz1,hz2⟩:=info_parts infoInt;have H2:=Zab (show Below w.heap.size w ((w.alloc (.cells #[Vi (b 0),Vi (b 1),Vi (b 2),.bool (o 0),.bool (o 1),.bool (o 2),Vi l] 33)).alloc (.cells #[.bool (t 0),Vi (s 0),.bool (t 1),Vi (s 1),.bool (t 2),Vi (s 2)] 185)) from Zac (Zaa _ _) (Zaa _ _))
 have B2:Hid (BankAt ((w.alloc (.cells #[Vi (b 0),Vi (b 1),Vi (b 2),.bool (o 0),.bool (o 1),.bool (o 2),Vi l] 33)).alloc (.cells #[.bool (t 0),Vi (s 0),.bool (t 1),Vi (s 1),.bool (t 2),Vi (s 2)] 185)) w.heap.size b o l):=by
  refine⟨?_,?_,?_,?_,?_,?_,?_⟩<;>simp[go_sem,World.cell?_alloc_past]
 go_enter func212,ntmps212
 go_wp2;generalize ((w.alloc (.cells #[Vi (b 0),Vi (b 1),Vi (b 2),.bool (o 0),.bool (o 1),.bool (o 2),Vi l] 33)).alloc (.cells #[.bool (t 0),Vi (s 0),.bool (t 1),Vi (s 1),.bool (t 2),Vi (s 2)] 185))=w2 at*
 go_loopw [5,9] (fun v i wr=>∃(k:Nat) (ao:Option Addr) (cv:Nat),k≤3∧i=Vi k∧v=.slice ao (cntL t o s k).length cv∧wr.ownsRow w2.heap.size 3 1 v (cntL t o s k).length ((cntL t o s k).map (Value.int .i64))∧Below w2.heap.size w2 wr) (fun _ i _=>3-(intOf i).toNat)
 case atStart=>exact⟨0,none,0,by omega,rfl,rfl,World.ownsRow_nil _ _ _ _,Below.refl _ _⟩
 case round=>
  obtain⟨k,ao,cv,hk,rfl,rfl,hown,hnx⟩:=hrel;have hsize:=hnx.size
  by_cases hlt:k<3
  · have hix:=idxS t s k hlt;have c3:∀ob,(wr.alloc ob).cell? (Ad w.heap.size (3+k))=some (.bool (o k)):=fun ob=>cell_later (Zaa wr ob) ((B2.out.later hnx).out k hlt);have hl:=cntL_len t o s k;have HS:=Zab (show cntL t o s (k+1)=(if(t k&&!o k) then cntL t o s k++[s k] else cntL t o s k) from rfl);have HN:=Zab hnx;clear hnx
    have i0':(0:Int)≤(k:Int):=by omega
    have i1':(k:Int)<3:=by omega
    generalize cntL t o s k=q at*
    cases h1:t k
    · rw[h1] at hix HS;have HO:=Zab hown;clear hown;go_wp2;go_roundw
      case rel=>exact⟨k+1,ao,cv,by omega,by go_num,by rw[HS.out];rfl,by rw[HS.out];exact HO.out.alloc _,Zac HN.out (Zaa _ _)⟩
      case measure=>simp[intOf];omega
    · rw[h1] at hix HS
      cases h2:o k
      · rw[h2] at c3 HS;generalize s k=z at*
        have hnew:∀(s1:Obj) (j:Nat) (u:Value),[Vi z][j]?=some u→((wr.alloc s1).alloc (.cells #[Vi z] 3)).cell? ((⟨wr.heap.size+1,0,none⟩:Addr).add j)=some u:=by
         intro s1 j u hu
         cases j with
         |zero=>simp at hu;subst hu;simp[go_sem,Addr.add]
         |succ j=>simp at hu
        go_wp2_with (first
         |(at_builtin;refine wpList_append_lies _ rfl _ _ 22 rfl w2.heap.size 3 i0 (.int .i64 0) 1 8 underlying22 hi hz0 hz1 hz2 rfl (by decide) _ _ _ rfl ((hown.alloc _).alloc _) ⟨wr.heap.size+1,0,none⟩ 1 1 [.int .i64 z] rfl rfl (hnew _) (fun x hx=>by simp at hx;subst hx;rfl) (by omega) (by unfold maxLen;omega) (by omega) (by simp;omega) _ rfl ?_;intro g cap w3 hown' hgrow hat hlt3))
        go_roundw
        case rel=>
         refine⟨k+1,some (Ad g 0),cap,by omega,by go_num,by rw[HS.out];simp,?_,?_⟩
         · rw[HS.out,show(if(true&&!false)=true then q++[z] else q)=q++[z] from rfl,List.map_append,List.length_append];exact hown'
         · exact((HN.out.alloc hsize _).alloc (by simp;omega) _).grown hgrow (by simp;omega) (fun q hq=>(hown.lt q hq).1)
        case measure=>simp[intOf];omega
      · rw[h2] at c3 HS;have HO:=Zab hown;clear hown;go_wp2;go_roundw
        case rel=>exact⟨k+1,ao,cv,by omega,by go_num,by rw[HS.out];rfl,by rw[HS.out];exact HO.out.alloc _,Zac HN.out (Zaa _ _)⟩
        case measure=>simp[intOf];omega
  · have e:k=3:=by omega
    subst e;have HN:=Zab hnx;clear hnx;have H2W:Hid (w.heap.size≤w2.heap.size):=H2.out.size;have hl:=cntL_len t o s 3;obtain⟨q,HQE⟩:∃q,Hid (cntL t o s 3=q):=⟨_,rfl⟩;rw[HQE.out] at hown hl⊢
    by_cases hq:q.length=0
    · have HQ:Hid (q=[]):=List.length_eq_zero_iff.mp hq;rw[hq];have HO:=Zab hown;clear hown hq
      go_wp2_with (go_at_call 239;refine(sort_none _ _ _).mono ?_;rintro e w' ⟨rfl,rfl⟩);go_ret;refine⟨⟨_,rfl,?_⟩,Zac H2.out HN.out⟩;rw[HQE.out,HQ.out,show risL []=[] by simp[risL]];rw[HQ.out] at HO;exact owns_base HO.out H2W.out
    · obtain⟨g,cap,cur,hv,hg0,hg,hc1,hc2,hc3,hc4⟩:=hown.2.resolve_left (fun h=>hq h.2);simp only[Value.slice.injEq] at hv;obtain⟨rfl,_,rfl⟩:=hv;have hH:=holds_of_blockI hg (by rw[Nat.mul_one] at hc4;exact hc4)
      have hgl:g<wr.heap.size:=by
       rcases Nat.lt_or_ge g wr.heap.size with h|h
       · exact h
       · rw[Array.getElem?_eq_none h] at hg;cases hg
      have hso:=sort_int g 0 cv q wr hH hgl (by omega)
      have HR:Hid (∀n os,(Go.Sort.grow (Go.Sort.putRow (Value.int .i64) (Go.Sort.ahead wr n) g 0 (q.mergeSort fun x y=>decide (x≤y)).toArray) os).ownsRow w2.heap.size 3 1 (.slice (some (Ad g 0)) q.length cv) q.length ((risL q).map (Value.int .i64))∧Below w2.heap.size w2 (Go.Sort.grow (Go.Sort.putRow (Value.int .i64) (Go.Sort.ahead wr n) g 0 (q.mergeSort fun x y=>decide (x≤y)).toArray) os)):=by
       intro n os;refine⟨ownsRow_sortedI (risL_len q) hg0 hg hc1 hc2 hc3,?_⟩;exact HN.out.grown (grownBy_sortedI _) hsize (fun k hk=>by cases hk;exact hg0)
      clear hH hg hc4 hc3 hown
      go_wp2_with (go_at_call 239;refine hso.mono ?_;rintro e w' ⟨rfl,n,os,hw'⟩;have HW:=Zab hw';clear hw');go_ret;have hr:=HR.out n os;rw[←HW.out] at hr;refine⟨⟨_,rfl,?_⟩,Zac H2.out hr.2⟩;rw[HQE.out,risL_len];exact owns_base hr.1 H2W.out
def zI(_:Nat):Int:=0
def zB(_:Nat):Bool:=false
def StAt(w0 w:World)(b:Nat→Int)(o:Nat→Bool)(l m c:Int)(t:Nat→Bool)(s:Nat→Int):Prop:=
 (BankAt w w0.heap.size b o l∧Frz w w0.heap.size 7)∧RuleAt w (w0.heap.size+1) m c∧SampAt w (w0.heap.size+1+1) t s∧(BankAt w (w0.heap.size+1+1+1) zI zB 0∧Frz w (w0.heap.size+1+1+1) 7)∧(RuleAt w (w0.heap.size+1+1+1+1) 0 0∧Frz w (w0.heap.size+1+1+1+1) 2)∧Below w0.heap.size w0 w
theorem StAt.later{w0 w w':World}{b o l m c t s}(h:StAt w0 w b o l m c t s)(hb:Below w.heap.size w w'):StAt w0 w' b o l m c t s:=by
 obtain⟨⟨h1,h2⟩,h3,h4,⟨h5,h6⟩,⟨h7,h8⟩,h9⟩:=h;exact⟨⟨h1.later hb,h2.later hb⟩,h3.later hb,h4.later hb,⟨h5.later hb,h6.later hb⟩,⟨h7.later hb,h8.later hb⟩,Zac h9 hb⟩
theorem StAt.lt{w0 w:World}{b o l m c t s}(h:StAt w0 w b o l m c t s):w0.heap.size+1+1+1+1<w.heap.size:=h.2.2.2.2.1.2.2
theorem StAt.setBad{w0 w:World}{b o l m c t s}(h:StAt w0 w b o l m c t s)(k:Nat)(hk:k<3)(v:Int):StAt w0 (w.setCell (Ad w0.heap.size k) (Vi v)) (updI b k v) o l m c t s:=by
 obtain⟨⟨h1,h2⟩,h3,h4,⟨h5,h6⟩,⟨h7,h8⟩,h9⟩:=h;exact⟨⟨h1.setBad k hk v,h2.set⟩,h3.set (by omega),h4.set (by omega),⟨h5.set (by omega),h6.set⟩,⟨h7.set (by omega),h8.set⟩,h9.setCell (Nat.le_refl _) _⟩
theorem StAt.setOut{w0 w:World}{b o l m c t s}(h:StAt w0 w b o l m c t s)(k:Nat)(hk:k<3)(v:Bool):StAt w0 (w.setCell (Ad w0.heap.size (3+k)) (.bool v)) b (updB o k v) l m c t s:=by
 obtain⟨⟨h1,h2⟩,h3,h4,⟨h5,h6⟩,⟨h7,h8⟩,h9⟩:=h;exact⟨⟨h1.setOut k hk v,h2.set⟩,h3.set (by omega),h4.set (by omega),⟨h5.set (by omega),h6.set⟩,⟨h7.set (by omega),h8.set⟩,h9.setCell (Nat.le_refl _) _⟩
theorem StAt.setLast{w0 w:World}{b o l m c t s}(h:StAt w0 w b o l m c t s)(v:Int):StAt w0 (w.setCell (Ad w0.heap.size 6) (Vi v)) b o v m c t s:=by
 obtain⟨⟨h1,h2⟩,h3,h4,⟨h5,h6⟩,⟨h7,h8⟩,h9⟩:=h;exact⟨⟨h1.setLast v,h2.set⟩,h3.set (by omega),h4.set (by omega),⟨h5.set (by omega),h6.set⟩,⟨h7.set (by omega),h8.set⟩,h9.setCell (Nat.le_refl _) _⟩
theorem StAt.setElse{w0 w:World}{b o l m c t s}(h:StAt w0 w b o l m c t s){C q:Nat}(hC:w0.heap.size+1+1+1+1<C)(v:Value):StAt w0 (w.setCell (Ad C q) v) b o l m c t s:=by
 obtain⟨⟨h1,h2⟩,h3,h4,⟨h5,h6⟩,⟨h7,h8⟩,h9⟩:=h;exact⟨⟨h1.set (by omega),h2.set⟩,h3.set (by omega),h4.set (by omega),⟨h5.set (by omega),h6.set⟩,⟨h7.set (by omega),h8.set⟩,h9.setCell (by simp;omega) _⟩
theorem Frz.new{w:World}{cs:Array Value}{T:TypeId}{n:Nat}:Frz (w.alloc (.cells cs T)) w.heap.size n:=
 ⟨fun j _=>by simp[go_sem],by simp[go_sem]⟩
theorem st_new(w:World)(b:Nat→Int)(o:Nat→Bool)(l m c:Int)(t:Nat→Bool)(s:Nat→Int):
 StAt w (((((w.alloc (.cells #[Vi (b 0),Vi (b 1),Vi (b 2),.bool (o 0),.bool (o 1),.bool (o 2),Vi l] 33)).alloc (.cells #[Vi m,Vi c] 124)).alloc (.cells #[.bool (t 0),Vi (s 0),.bool (t 1),Vi (s 1),.bool (t 2),Vi (s 2)] 185)).alloc (.cells #[Vi 0,Vi 0,Vi 0,.bool false,.bool false,.bool false,Vi 0] 33)).alloc (.cells #[Vi 0,Vi 0] 187)) b o l m c t s:=by
 have A:=args_new w b o l m c t s;have F1:Frz (w.alloc (.cells #[Vi (b 0),Vi (b 1),Vi (b 2),.bool (o 0),.bool (o 1),.bool (o 2),Vi l] 33)) w.heap.size 7:=Frz.new;have F2:=(F1.later (Zaa _ (.cells #[Vi m,Vi c] 124))).later (Zaa _ (.cells #[.bool (t 0),Vi (s 0),.bool (t 1),Vi (s 1),.bool (t 2),Vi (s 2)] 185))
 have hz:((((w.alloc (.cells #[Vi (b 0),Vi (b 1),Vi (b 2),.bool (o 0),.bool (o 1),.bool (o 2),Vi l] 33)).alloc (.cells #[Vi m,Vi c] 124)).alloc (.cells #[.bool (t 0),Vi (s 0),.bool (t 1),Vi (s 1),.bool (t 2),Vi (s 2)] 185))).heap.size=w.heap.size+1+1+1:=by simp[go_sem]
 generalize ((((w.alloc (.cells #[Vi (b 0),Vi (b 1),Vi (b 2),.bool (o 0),.bool (o 1),.bool (o 2),Vi l] 33)).alloc (.cells #[Vi m,Vi c] 124)).alloc (.cells #[.bool (t 0),Vi (s 0),.bool (t 1),Vi (s 1),.bool (t 2),Vi (s 2)] 185)))=w3 at*
 have F3:Frz (w3.alloc (.cells #[Vi 0,Vi 0,Vi 0,.bool false,.bool false,.bool false,Vi 0] 33)) (w.heap.size+1+1+1) 7:=by rw[←hz];exact Frz.new
 have B3:BankAt (w3.alloc (.cells #[Vi 0,Vi 0,Vi 0,.bool false,.bool false,.bool false,Vi 0] 33)) (w.heap.size+1+1+1) zI zB 0:=by
  rw[←hz]
  refine⟨?_,?_,?_,?_,?_,?_,?_⟩<;>simp[go_sem,zI,zB]
 have A3:=A.later A.le (Zaa w3 (.cells #[Vi 0,Vi 0,Vi 0,.bool false,.bool false,.bool false,Vi 0] 33));have F23:=F2.later (Zaa w3 (.cells #[Vi 0,Vi 0,Vi 0,.bool false,.bool false,.bool false,Vi 0] 33))
 have hz4:(w3.alloc (.cells #[Vi 0,Vi 0,Vi 0,.bool false,.bool false,.bool false,Vi 0] 33)).heap.size=w.heap.size+1+1+1+1:=by simp[go_sem,hz]
 generalize (w3.alloc (.cells #[Vi 0,Vi 0,Vi 0,.bool false,.bool false,.bool false,Vi 0] 33))=w4 at *;have L:=Zaa w4 (.cells #[Vi 0,Vi 0] 187);have A4:=A3.later A3.le L;refine⟨⟨A4.1,F23.later L⟩,A4.2.1,A4.2.2.1,⟨B3.later L,F3.later L⟩,⟨?_,?_⟩,A4.2.2.2⟩
 · rw[←hz4];exact⟨by simp[go_sem],by simp[go_sem]⟩
 · rw[←hz4];exact Frz.new
theorem RuleAt.setBoth{w:World}{B:Nat}{m c}(h:RuleAt w B m c)(p q:Int):RuleAt ((w.setCell (Ad B 0) (Vi p)).setCell (Ad B 1) (Vi q)) B p q:=
 ⟨Zad (Zao h.1) (Zai (by decide)),Zao (Zad h.2 (Zai (by decide)))⟩
def ansW(w:World)(B C:Nat)(y0 y1 y2:Int)(x0 x1 x2:Bool)(l v n:Int):World:=
 ((((((((w.setCell (Ad B 0) (Vi y0)).setCell (Ad B 1) (Vi y1)).setCell (Ad B 2) (Vi y2)).setCell (Ad B 3) (.bool x0)).setCell (Ad B 4) (.bool x1)).setCell (Ad B 5) (.bool x2)).setCell (Ad B 6) (Vi l)).setCell (Ad C 0) (Vi v)).setCell (Ad C 1) (Vi n)
theorem ansW_at{w:World}{B C:Nat}(hb:BankAt w B zI zB 0)(hr:RuleAt w C 0 0)(hne:C≠B)(y0 y1 y2:Int)(x0 x1 x2:Bool)(l v n:Int):
 ((ansW w B C y0 y1 y2 x0 x1 x2 l v n).cell? (Ad B 0)=some (Vi y0)∧(ansW w B C y0 y1 y2 x0 x1 x2 l v n).cell? (Ad B 1)=some (Vi y1)∧(ansW w B C y0 y1 y2 x0 x1 x2 l v n).cell? (Ad B 2)=some (Vi y2)∧(ansW w B C y0 y1 y2 x0 x1 x2 l v n).cell? (Ad B 3)=some (.bool x0)∧(ansW w B C y0 y1 y2 x0 x1 x2 l v n).cell? (Ad B 4)=some (.bool x1)∧(ansW w B C y0 y1 y2 x0 x1 x2 l v n).cell? (Ad B 5)=some (.bool x2)∧(ansW w B C y0 y1 y2 x0 x1 x2 l v n).cell? (Ad B 6)=some (Vi l))
 ∧RuleAt (ansW w B C y0 y1 y2 x0 x1 x2 l v n) C v n:=by
 refine⟨?_,?_⟩
 · have h:=((((((((hb.setBad0 y0).setBad1 y1).setBad2 y2).setOut0 x0).setOut1 x1).setOut2 x2).setLast l).set (q:=0) (v:=Vi v) hne).set (q:=1) (v:=Vi n) hne;exact h
 · exact(((((((hr.set (q:=0) (v:=Vi y0) (Ne.symm hne)).set (q:=1) (v:=Vi y1) (Ne.symm hne)).set (q:=2) (v:=Vi y2) (Ne.symm hne)).set (q:=3) (v:=.bool x0) (Ne.symm hne)).set (q:=4) (v:=.bool x1) (Ne.symm hne)).set (q:=5) (v:=.bool x2) (Ne.symm hne)).set (q:=6) (v:=Vi l) (Ne.symm hne)).setBoth v n
theorem ansW_below{w0 w:World}{K B C:Nat}(h:Below K w0 w)(hB:K≤B)(hC:K≤C)(y0 y1 y2:Int)(x0 x1 x2:Bool)(l v n:Int):Below K w0 (ansW w B C y0 y1 y2 x0 x1 x2 l v n):=
 ((((((((h.setCell hB _).setCell hB _).setCell hB _).setCell hB _).setCell hB _).setCell hB _).setCell hB _).setCell hC _).setCell hC _
def setI:List Int→Int→Int
 |[_,y,_],_=>y
 |[x,y],_=>(x+y)/2
 |[x],_=>x
 |_,last=>last
theorem Zgd{w:World}{B:Nat}{v:Value}{zs:List Int}(h:w.ownsRow B 3 1 v zs.length (zs.map (Value.int .i64)))(hn:zs≠[]):
 ∃g cap,v=.slice (some (Ad g 0)) zs.length cap∧∀j,j<zs.length→w.cell? (Ad g j)=some (Vi (zs.getD j 0)):=by
 obtain⟨g,cap,cur,hv,hg0,hg,hc1,hc2,hc3,hc4⟩:=h.2.resolve_left (fun h=>hn (List.length_eq_zero_iff.mp h.2));refine⟨g,cap,hv,fun j hj=>?_⟩;have hH:=holds_of_blockI hg (by rw[Nat.mul_one] at hc4;exact hc4);have:=(hH j (by simpa using hj)).1;simp only[Nat.zero_add] at this;rw[this,List.getD_eq_getElem?_getD,List.getElem?_eq_getElem hj]
 simp[hj]
theorem settle_any(zs:List Int)(l:Int)(v:Value)(B:Nat)(w:World)(hlen:zs.length≤3)(hz:∀z∈zs,-1000000≤z∧z≤1000000)(h:w.ownsRow B 3 1 v zs.length (zs.map (Value.int .i64))):
 Calls prog 211 #[v,Vi l] w fun e w'=>e=.returned (.agg #[Vi (setI zs l),Vi (zs.length:Int)])∧Below w.heap.size w w':=by
 match zs,hlen,hz,h with
 |[],_,_,h=>
  obtain⟨ao,cv,rfl⟩:∃ao cv,v=.slice ao 0 cv:=by
   rcases h.2 with⟨h,_⟩|⟨g,cap,cur,h,_⟩
   · exact⟨none,0,h⟩
   · exact⟨_,_,h⟩
  clear h
  go_enter func211,ntmps211
  go_wp2;exact bodyPost_ret (v:=.agg #[Vi l,Vi 0]) (by simp[results,results211,go_sem]) rfl ⟨rfl,Zaa _ _⟩
 |[x],_,_,h=>
  obtain⟨g,cap,rfl,hc⟩:=Zgd h (by simp);have c0:=hc 0 (by simp);have n0:=World.block_lt_of_cell? w ⟨g,0,none⟩ c0;clear hc h;simp only[List.getD_cons_zero,List.length_cons,List.length_nil] at c0⊢;have d0:∀ob,(w.alloc ob).cell? (Ad g 0)=some (Vi x):=fun ob=>cell_later (Zaa _ _) c0
  go_enter func211,ntmps211
  go_wp2;exact bodyPost_ret (v:=.agg #[Vi x,Vi 1]) (by simp[results,results211,go_sem]) rfl ⟨rfl,Zaa _ _⟩
 |[x,y],_,hz,h=>
  obtain⟨g,cap,rfl,hc⟩:=Zgd h (by simp);have c0:=hc 0 (by simp);have c1:=hc 1 (by simp);have hx:=hz x (by simp);have hy:=hz y (by simp);clear hc h hz;simp only[List.getD_cons_zero,List.getD_cons_succ,List.length_cons,List.length_nil] at c0 c1⊢;have d0:∀ob,(w.alloc ob).cell? (Ad g 0)=some (Vi x):=fun ob=>cell_later (Zaa _ _) c0;have d1:∀ob,(w.alloc ob).cell? (Ad g 1)=some (Vi y):=fun ob=>cell_later (Zaa _ _) c1
  have hw:IntKind.i64.wrap (x+y)=x+y:=by rw[IntKind.wrap_i64];omega
  go_enter func211,ntmps211
  go_wp2;go_quiet (fail);go_wp2
  rename_i nq
  have HX:=Zab (show RuleAt ((w.alloc (.cells #[Vi 0,Vi 0] 187)).drewN nq) w.heap.size 0 0 from RuleAt.later ⟨by simp[go_sem],by simp[go_sem]⟩ (below_drewN (Below.refl _ _) _));have HB:=Zab (below_drewN (Zaa w (.cells #[Vi 0,Vi 0] 187)) nq);generalize ((w.alloc (.cells #[Vi 0,Vi 0] 187)).drewN nq)=w1 at *;have hx':=HX.out.setBoth ((x+y)/2) 2;have hb':=(HB.out.setCell (p:=⟨w.heap.size,0,none⟩) (Nat.le_refl _) (Vi ((x+y)/2))).setCell (p:=⟨w.heap.size,1,none⟩) (Nat.le_refl _) (Vi 2);generalize ((w1.setCell (Ad w.heap.size 0) (Vi ((x+y)/2))).setCell (Ad w.heap.size 1) (Vi 2))=w2 at *;obtain⟨e0,e1⟩:=hx';exact bodyPost_ret (v:=.agg #[Vi ((x+y)/2),Vi 2]) (by simp[results,results211,go_sem,e0,e1]) rfl ⟨rfl,hb'⟩
 |[x,y,z],_,_,h=>
  obtain⟨g,cap,rfl,hc⟩:=Zgd h (by simp);have c1:=hc 1 (by simp);clear hc h;simp only[List.getD_cons_zero,List.getD_cons_succ,List.length_cons,List.length_nil] at c1⊢;have d1:∀ob,(w.alloc ob).cell? (Ad g 1)=some (Vi y):=fun ob=>cell_later (Zaa _ _) c1
  go_enter func211,ntmps211
  go_wp2;exact bodyPost_ret (v:=.agg #[Vi y,Vi 3]) (by simp[results,results211,go_sem]) rfl ⟨rfl,Zaa _ _⟩
theorem rise2(x y:Int):risL [x,y]=if x≤y then[x,y] else[y,x]:=by
 unfold risL
 by_cases h:x≤y<;>simp[List.mergeSort,List.MergeSort.Internal.splitInTwo,h]
theorem rise3(x y z:Int):∃p q r,risL [x,y,z]=[p,q,r]∧q=x+y+z-mnI (mnI x y) z-mxI (mxI x y) z:=by
 have e:risL [x,y,z]=List.merge (risL [x,y]) [z] (fun x y=>decide (x≤y)):=by
  unfold risL
  rw[List.mergeSort]
  simp[List.MergeSort.Internal.splitInTwo]
 rw[e,rise2]
 unfold mnI mxI
 by_cases h1:x≤y
 · by_cases h2:x≤z
   · by_cases h3:y≤z
     · refine⟨x,y,z,by simp[h1,h2,h3],?_⟩;simp only[h1,h2,h3,if_true];omega
     · refine⟨x,z,y,by simp[h1,h2,h3],?_⟩;simp only[h1,h2,h3,if_true,if_false];omega
   · have h3:¬y≤z:=by omega
     refine⟨z,x,y,by simp[h1,h2],?_⟩;simp only[h1,h2,h3,if_true,if_false];omega
 · by_cases h2:y≤z
   · by_cases h3:x≤z
     · refine⟨y,x,z,by simp[h1,h2,h3],?_⟩;simp only[h1,h2,h3,if_true,if_false];omega
     · refine⟨y,z,x,by simp[h1,h2,h3],?_⟩;simp only[h1,h2,h3,if_true,if_false];omega
   · have h3:¬x≤z:=by omega
     refine⟨z,y,x,by simp[h1,h2],?_⟩;simp only[h1,h2,h3,if_false];omega
theorem many_len(t o:Nat→Bool)(s:Nat→Int):∀k:Nat,((cntL t o s k).length:Int)=Zcb t o k
 |0=>rfl
 |k+1=>by have:=many_len t o s k;simp only[cntL,Zcb];split<;>(try simp)<;>omega
theorem cntL_bd{t o:Nat→Bool}{s:Nat→Int}(h:Fit t o s):∀z∈risL (cntL t o s 3),-1000000≤z∧z≤1000000:=by
 have hk:∀k:Nat,k≤3→∀z∈cntL t o s k,-1000000≤z∧z≤1000000:=by
  intro k
  induction k with
  |zero=>intro _ z hz;simp[cntL] at hz
  |succ k ih=>
   intro hk z hz;simp only[cntL] at hz
   split at hz
   · rcases List.mem_append.mp hz with h1|h1
     · exact ih (by omega) z h1
     · simp at h1;subst h1;exact h k (by omega) (by assumption)
   · exact ih (by omega) z hz
 intro z hz;exact hk 3 (Nat.le_refl _) z (List.mem_mergeSort.mp hz)
theorem set_vot{t o:Nat→Bool}{s:Nat→Int}(l:Int)(h:Fit t o s):setI (risL (cntL t o s 3)) l=votI t o s l:=by
 have a0:=h 0 (by omega);have a1:=h 1 (by omega);have a2:=h 2 (by omega)
 cases c0:cntB t o 0<;>cases c1:cntB t o 1<;>cases c2:cntB t o 2<;>(try replace a0:=a0 c0)<;>(try replace a1:=a1 c1)<;>(try replace a2:=a2 c2)
 case true.true.true=>
  obtain⟨p,q,r,e1,e2⟩:=rise3 (s 0) (s 1) (s 2)
  have e3:mnI 2147483647 (s 0)=s 0:=by unfold mnI;rw[if_neg (by omega)]
  have e4:mxI (-2147483647) (s 0)=s 0:=by unfold mxI;rw[if_pos (by omega)]
  simp[votI,Zcb,sumU,Zci,Zet,cntL,c0,c1,c2,e1,setI,e2,e3,e4]
 case false.false.false=>simp[votI,Zcb,cntL,c0,c1,c2,risL,setI]
 case true.false.false=>simp[votI,Zcb,sumU,cntL,c0,c1,c2,risL,setI]
 case false.true.false=>simp[votI,Zcb,sumU,cntL,c0,c1,c2,risL,setI]
 case false.false.true=>simp[votI,Zcb,sumU,cntL,c0,c1,c2,risL,setI]
 all_goals
  simp[votI,Zcb,sumU,cntL,c0,c1,c2,rise2]
  split<;>simp[setI,Int.add_comm]
end Go.Proofs.YtnfdfiholcelaaaGreatDoor
