import Derived.Deep.WholeRow
import Derived.Deep.MidRow
import Derived.Sort.LotA
import Derived.RangeFuncRecord
import Derived.Laws.Rows
import Derived.KernelRfl
import Derived.Maps.Own
import Derived.Maps.Range
import Derived.Sort.MapsRangeIn
import Derived.DeepKeys4
import Derived.Test.YtnfdfiholcelaaaGreatDoorJh00
import Derived.Test.YtnfdfiholcelaaaGreatDoorJh03
set_option maxRecDepth 100000
set_option maxHeartbeats 20000000
namespace Go.Proofs.YtnfdfiholcelaaaGreatDoor
open Go.RowKit Plain Tryz
theorem cells0{w:World}{B:Nat}{v:Nat→Value}(h:CxV w B v):(w.cell? (Ad B 0)=some (v 0)∧w.frozen? (Ad B 0)=false)∧(w.cell? (Ad B 1)=some (v 1)∧w.frozen? (Ad B 1)=false)∧(w.cell? (Ad B 2)=some (v 2)∧w.frozen? (Ad B 2)=false)∧(w.cell? (Ad B 3)=some (v 3)∧w.frozen? (Ad B 3)=false)∧(w.cell? (Ad B 4)=some (v 4)∧w.frozen? (Ad B 4)=false)∧(w.cell? (Ad B 5)=some (v 5)∧w.frozen? (Ad B 5)=false)∧(w.cell? (Ad B 6)=some (v 6)∧w.frozen? (Ad B 6)=false)∧(w.cell? (Ad B 7)=some (v 7)∧w.frozen? (Ad B 7)=false)∧(w.cell? (Ad B 8)=some (v 8)∧w.frozen? (Ad B 8)=false)∧(w.cell? (Ad B 9)=some (v 9)∧w.frozen? (Ad B 9)=false)∧(w.cell? (Ad B 10)=some (v 10)∧w.frozen? (Ad B 10)=false)∧(w.cell? (Ad B 11)=some (v 11)∧w.frozen? (Ad B 11)=false)∧(w.cell? (Ad B 12)=some (v 12)∧w.frozen? (Ad B 12)=false)∧(w.cell? (Ad B 13)=some (v 13)∧w.frozen? (Ad B 13)=false)∧(w.cell? (Ad B 14)=some (v 14)∧w.frozen? (Ad B 14)=false):=
 ⟨h 0 (by omega),h 1 (by omega),h 2 (by omega),h 3 (by omega),h 4 (by omega),h 5 (by omega),h 6 (by omega),h 7 (by omega),h 8 (by omega),h 9 (by omega),h 10 (by omega),h 11 (by omega),h 12 (by omega),h 13 (by omega),h 14 (by omega)⟩
theorem cells15{w:World}{B:Nat}{v:Nat→Value}(h:CxV w B v):(w.cell? (Ad B 15)=some (v 15)∧w.frozen? (Ad B 15)=false)∧(w.cell? (Ad B 16)=some (v 16)∧w.frozen? (Ad B 16)=false)∧(w.cell? (Ad B 17)=some (v 17)∧w.frozen? (Ad B 17)=false)∧(w.cell? (Ad B 18)=some (v 18)∧w.frozen? (Ad B 18)=false)∧(w.cell? (Ad B 19)=some (v 19)∧w.frozen? (Ad B 19)=false)∧(w.cell? (Ad B 20)=some (v 20)∧w.frozen? (Ad B 20)=false)∧(w.cell? (Ad B 21)=some (v 21)∧w.frozen? (Ad B 21)=false)∧(w.cell? (Ad B 22)=some (v 22)∧w.frozen? (Ad B 22)=false)∧(w.cell? (Ad B 23)=some (v 23)∧w.frozen? (Ad B 23)=false)∧(w.cell? (Ad B 24)=some (v 24)∧w.frozen? (Ad B 24)=false)∧(w.cell? (Ad B 25)=some (v 25)∧w.frozen? (Ad B 25)=false)∧(w.cell? (Ad B 26)=some (v 26)∧w.frozen? (Ad B 26)=false)∧(w.cell? (Ad B 27)=some (v 27)∧w.frozen? (Ad B 27)=false)∧(w.cell? (Ad B 28)=some (v 28)∧w.frozen? (Ad B 28)=false)∧(w.cell? (Ad B 29)=some (v 29)∧w.frozen? (Ad B 29)=false):=
 ⟨h 15 (by omega),h 16 (by omega),h 17 (by omega),h 18 (by omega),h 19 (by omega),h 20 (by omega),h 21 (by omega),h 22 (by omega),h 23 (by omega),h 24 (by omega),h 25 (by omega),h 26 (by omega),h 27 (by omega),h 28 (by omega),h 29 (by omega)⟩
def CrLp(w:World)(O B:Nat)(a:Option Addr)(l:List Int)(cap:Nat)(ix:Value)(wr:World):Prop:=
 ∃v:Nat→Value,(∃x,v 30=Vi x∧0≤x∧x≤99)∧(∃x,v 31=Vi x∧1≤x∧x≤10)∧
  ((ix=Vi 0∧CXS w wr O w.heap.size B a l cap 2 v)∨(ix=Vi 1∧CXS w wr O w.heap.size B a l cap 24 v∧AxFt wr B v 0)∨(ix=Vi 2∧CXS w wr O w.heap.size B a l cap 46 v∧AxFt wr B v 0∧AxFt wr B v 15))
theorem Zib{K b:Nat}{w0:World}:∀(vs:List Value) (o:Nat) (w:World),Below K w0 w→K≤b→Below K w0 (w.setCells b o vs)
 |[],_,_,h,_=>h
 |v::r,o,w,h,hb=>Zib r (o+1) (w.setCell ⟨b,o,none⟩ v) (h.setCell (by simpa using hb) v) hb
theorem gsets{b:Nat}{x:Addr}{c:Value}(hb:x.block≠b):∀(vs:List Value) (o:Nat) (w:World),w.cell? x=some c→(w.setCells b o vs).cell? x=some c
 |[],_,_,h=>h
 |v::r,o,w,h=>gsets hb r (o+1) (w.setCell ⟨b,o,none⟩ v) (gset h hb)
theorem range32{w:World}{B:Nat}{v:Nat→Value}(h:CxV w B v):w.rangeAt B 0 [v 0,v 1,v 2,v 3,v 4,v 5,v 6,v 7,v 8,v 9,v 10,v 11,v 12,v 13,v 14,v 15,v 16,v 17,v 18,v 19,v 20,v 21,v 22,v 23,v 24,v 25,v 26,v 27,v 28,v 29,v 30,v 31]:=by
 intro j x hx;have hj:j<32:=(List.getElem?_eq_some_iff.1 hx).1;rw[Nat.zero_add]
 rcases(show j=0∨j=1∨j=2∨j=3∨j=4∨j=5∨j=6∨j=7∨j=8∨j=9∨j=10∨j=11∨j=12∨j=13∨j=14∨j=15∨j=16∨j=17∨j=18∨j=19∨j=20∨j=21∨j=22∨j=23∨j=24∨j=25∨j=26∨j=27∨j=28∨j=29∨j=30∨j=31 by omega) with rfl|rfl|rfl|rfl|rfl|rfl|rfl|rfl|rfl|rfl|rfl|rfl|rfl|rfl|rfl|rfl|rfl|rfl|rfl|rfl|rfl|rfl|rfl|rfl|rfl|rfl|rfl|rfl|rfl|rfl|rfl|rfl<;>(obtain rfl:=Option.some.inj hx;exact(h _ (by omega)).1)
theorem Zaw:(prog.info? 29).map (·.size)=some 32:=by kernel_rfl
theorem res_craft(tmps:Array Value)(U:World)(Z:Nat)(cs:List Value)(h2:tmps.getD 2 undef=.pointer (some (Ad Z 0)))(hR:U.rangeAt Z 0 cs)(hn:cs.length=32):
 (results Tryz.f21 tmps).run prog U=.ok (.agg cs.toArray) U:=by
 have h3:tmps[2]?.getD undef=.pointer (some (Ad Z 0)):=by simpa using h2
 simp[results,results21,h3,asAddr,run_loadVar_mid U Z 0 29 cs _ hR underlying29 rfl (by rw[Zaw,hn])]
theorem Zaq(cs:List Value)(h:cs.all (·.oneCell')=true):cs.toArray.all (·.oneCell')=true:=by simpa using h
theorem wpList_new{ops:Array Oper}{rest:List Oper}{op:Oper}{a:Act}{w:World}{Q:Exit→Act→World→Prop}{c c':Array Value}(x y:Operand)(hgd:op.guard=none)(ho:op.op=.store 29 x y)
 (hx:a.eval x=.pointer (some (Ad w.heap.size 0))) (hy:a.eval y=.agg c') (hs:c'.size=32) (hc:c.size=c'.size) (h1:c'.all (·.oneCell')=true)
 (h:wpList prog ops Q rest (a.put op.dst undef) (w.alloc (.cells c' 29))):wpList prog ops Q (op::rest) a (w.alloc (.cells c 29)):=
 wpList_plain hgd fun _ hK=>by
  unfold Oper.wp execOp
  simp only[ho,hx,hy,Sem.run_bind,Sem.run_pure,Result.andThen_ok,run_storeAt_new w 29 c c' (by rw[Zaw,hs]) hc h1];exact hK _ _ h
theorem craftFrom_full(a:Option Addr)(l:List Int)(cap:Nat)(hl:l.length≤100)(w:World)(hil:ILs w a l):
 Calls prog 21 #[.slice a l.length cap] w fun e w'=>(∃v:Nat→Value,e=.returned (.agg #[v 0,v 1,v 2,v 3,v 4,v 5,v 6,v 7,v 8,v 9,v 10,v 11,v 12,v 13,v 14,v 15,v 16,v 17,v 18,v 19,v 20,v 21,v 22,v 23,v 24,v 25,v 26,v 27,v 28,v 29,v 30,v 31])∧AxFt w' w.heap.size v 0∧AxFt w' w.heap.size v 15∧(∃x,v 30=Vi x∧0≤x∧x≤99)∧∃x,v 31=Vi x∧1≤x∧x≤10)∧Below w.heap.size w w':=by
 have hraw:=raw_of hil
 have HD:Hid (Dc ((w.alloc (.cells #[Vi 0,Vi 0,Vi 0,Vi 0,Vi 0,Vi 0,Vi 0,Vi 0,Vi 0,Vi 0,Vi 0,Vi 0,.slice none 0 0,.slice none 0 0,Vi 0,Vi 0,Vi 0,Vi 0,Vi 0,Vi 0,Vi 0,Vi 0,Vi 0,Vi 0,Vi 0,Vi 0,Vi 0,.slice none 0 0,.slice none 0 0,Vi 0,Vi 0,Vi 0] 29)).alloc (.cells #[.slice a l.length cap,Vi 0] 154)) (w.heap.size+1) a l cap 0):=by
  refine Zab ⟨⟨by simp[go_sem],by simp[go_sem]⟩,by simp[go_sem],hil.later (Zac (Zaa _ _) (Zaa _ _)),fun b off e hne=>?_⟩;have:=hraw b off e hne
  omega
 have HZ:Hid (CxV ((w.alloc (.cells #[Vi 0,Vi 0,Vi 0,Vi 0,Vi 0,Vi 0,Vi 0,Vi 0,Vi 0,Vi 0,Vi 0,Vi 0,.slice none 0 0,.slice none 0 0,Vi 0,Vi 0,Vi 0,Vi 0,Vi 0,Vi 0,Vi 0,Vi 0,Vi 0,Vi 0,Vi 0,Vi 0,Vi 0,.slice none 0 0,.slice none 0 0,Vi 0,Vi 0,Vi 0] 29)).alloc (.cells #[.slice a l.length cap,Vi 0] 154)) w.heap.size zC):=Zab ((cx_zero w 29).later (Zaa _ _));have HB:Hid (Below w.heap.size w ((w.alloc (.cells #[Vi 0,Vi 0,Vi 0,Vi 0,Vi 0,Vi 0,Vi 0,Vi 0,Vi 0,Vi 0,Vi 0,Vi 0,.slice none 0 0,.slice none 0 0,Vi 0,Vi 0,Vi 0,Vi 0,Vi 0,Vi 0,Vi 0,Vi 0,Vi 0,Vi 0,Vi 0,Vi 0,Vi 0,.slice none 0 0,.slice none 0 0,Vi 0,Vi 0,Vi 0] 29)).alloc (.cells #[.slice a l.length cap,Vi 0] 154))):=Zab (Zac (Zaa _ _) (Zaa _ _))
 go_enter func21,ntmps21
 go_upto_region 2 with fail;generalize (w.alloc (.cells #[Vi 0,Vi 0,Vi 0,Vi 0,Vi 0,Vi 0,Vi 0,Vi 0,Vi 0,Vi 0,Vi 0,Vi 0,.slice none 0 0,.slice none 0 0,Vi 0,Vi 0,Vi 0,Vi 0,Vi 0,Vi 0,Vi 0,Vi 0,Vi 0,Vi 0,Vi 0,Vi 0,Vi 0,.slice none 0 0,.slice none 0 0,Vi 0,Vi 0,Vi 0] 29)).alloc (.cells #[.slice a l.length cap,Vi 0] 154)=u1 at*
 have hO:w.heap.size<w.heap.size+1:=by omega
 obtain⟨O,hOO⟩:∃O,w.heap.size+1=O:=⟨_,rfl⟩;rw[hOO] at HD hO⊢
 have hb0:w.heap.size≤O:=by omega
 clear hOO;have TK1:Hid True:=trivial;have TK2:Hid True:=trivial
 go_upto_region 3 with(first
  |(refine Sq 29 _ _ rfl ?_;refine wpList_new (c':=#[Vi 0,Vi 0,Vi 0,Vi 0,Vi 0,Vi 0,Vi 0,Vi 0,Vi 0,Vi 0,Vi 0,Vi 0,.slice none 0 0,.slice none 0 0,Vi 0,Vi 0,Vi 0,Vi 0,Vi 0,Vi 0,Vi 0,Vi 0,Vi 0,Vi 0,Vi 0,Vi 0,Vi 0,.slice none 0 0,.slice none 0 0,Vi 0,Vi x,Vi (1+y)]) (.tmp 4) (.tmp 14) rfl rfl rfl rfl rfl rfl (Zaq _ rfl) ?_)
  |((first|go_at_call_of 67 (Vi 100)|go_at_call_of 67 (Value.int .i64 100));clear TK1;refine(dN 100 hl HD.out).mono ?_;rintro e y0 ⟨⟨x,rfl,x0,x1⟩,hD,hK,hsz⟩;clear hsz;have HD:=Zab hD;have HZ:=Zab (HZ.out.dk hK (by omega));have HB:=Zab (DK.below HB.out hK hb0 HB.out.size);clear hD hK)
  |((first|go_at_call_of 67 (Vi 10)|go_at_call_of 67 (Value.int .i64 10));clear TK2;refine(dN 10 hl HD.out).mono ?_;rintro e y1 ⟨⟨y,rfl,y0',y1'⟩,hD,hK,hsz⟩;clear hsz;have HD:=Zab hD;have HZ:=Zab (HZ.out.dk hK (by omega));have HB:=Zab (DK.below HB.out hK hb0 HB.out.size);clear hD hK))
 have HX:Hid (CXS w (y1.alloc (.cells #[Vi 0,Vi 0,Vi 0,Vi 0,Vi 0,Vi 0,Vi 0,Vi 0,Vi 0,Vi 0,Vi 0,Vi 0,.slice none 0 0,.slice none 0 0,Vi 0,Vi 0,Vi 0,Vi 0,Vi 0,Vi 0,Vi 0,Vi 0,Vi 0,Vi 0,Vi 0,Vi 0,Vi 0,.slice none 0 0,.slice none 0 0,Vi 0,Vi x,Vi (1+y)] 29)) O w.heap.size y1.heap.size a l cap 2 (updV (updV zC 30 (Vi x)) 31 (Vi (1+y)))):=
  Zab ⟨HD.out.later (Zaa _ _),cx_new y1 x (1+y) 29,HZ.out.later (Zaa _ _),Zac HB.out (Zaa _ _),Nat.le_refl _,hO,HD.out.lt,hraw⟩
 have HV:Hid ((updV (updV zC 30 (Vi x)) 31 (Vi (1+y))) 30=Vi x∧(updV (updV zC 30 (Vi x)) 31 (Vi (1+y))) 31=Vi (1+y)):=Zab ⟨rfl,rfl⟩;generalize (updV (updV zC 30 (Vi x)) 31 (Vi (1+y)))=v0 at *;generalize y1.alloc (.cells #[Vi 0,Vi 0,Vi 0,Vi 0,Vi 0,Vi 0,Vi 0,Vi 0,Vi 0,Vi 0,Vi 0,Vi 0,.slice none 0 0,.slice none 0 0,Vi 0,Vi 0,Vi 0,Vi 0,Vi 0,Vi 0,Vi 0,Vi 0,Vi 0,Vi 0,Vi 0,Vi 0,Vi 0,.slice none 0 0,.slice none 0 0,Vi 0,Vi x,Vi (1+y)] 29)=u2 at *;generalize y1.heap.size=B at *;have HXY:=Zab (show(0≤x∧x≤99)∧1≤1+y∧1+y≤10 by omega);clear HD HZ HB x0 x1 y0' y1';go_wp2
 go_loopw [5] (fun ix wr=>CrLp w O B a l cap ix wr) (fun ix _=>2-(intOf ix).toNat)
 case atStart=>exact⟨v0,⟨_,HV.out.1,HXY.out.1⟩,⟨_,HV.out.2,HXY.out.2⟩,Or.inl ⟨rfl,HX.out⟩⟩
 case round=>
  clear HX HV HXY;obtain⟨v,⟨l30,hv30,hl30⟩,⟨l31,hv31,hl31⟩,hrel⟩:=hrel;have HL30:=Zab hl30;have HL31:=Zab hl31;clear hl30 hl31;have H30:=Zab hv30;have H31:=Zab hv31;clear hv30 hv31;rename World=>wr
  rcases hrel with⟨rfl,hX⟩|⟨rfl,hX,hA⟩|⟨rfl,hX,hA,hA2⟩
  · have HX:=Zab hX;clear hX;have hraw2:Zhe a l wr.heap.size:=fun b off e hne=>Nat.lt_of_lt_of_le (hraw b off e hne) HX.out.2.2.2.1.size
    go_wp2_with (go_at_call 68;refine(axisFrom_any O a l cap 2 (by omega) hl _ HX.out.1 hraw2).mono ?_;rintro e y2 ⟨⟨a0,a1,a2,a3,a4,a5,a6,a7,a8,a9,a10,a11,a14,G1,G2,rfl,hax,⟨gz,gx,gy,hgl⟩,g1,g2⟩,hD,hK⟩;have HG:=Zab (show GL y2 G1 G2 gz gx gy∧B<G1∧B<G2 from⟨hgl,Nat.lt_of_lt_of_le HX.out.2.1.lt g1,Nat.lt_of_lt_of_le HX.out.2.1.lt g2⟩);have HKK:=Zab hK;have HX:=Zab (CXS.dk HX.out hD hK);clear hD hK hgl g1 g2;(obtain⟨⟨c0,f0⟩,⟨c1,f1⟩,⟨c2,f2⟩,⟨c3,f3⟩,⟨c4,f4⟩,⟨c5,f5⟩,⟨c6,f6⟩,⟨c7,f7⟩,⟨c8,f8⟩,⟨c9,f9⟩,⟨c10,f10⟩,⟨c11,f11⟩,⟨c12,f12⟩,⟨c13,f13⟩,⟨c14,f14⟩⟩:=cells0 HX.out.2.1));obtain⟨U,v',hU,hXU,hv,hw,hoth⟩:=puts0 HX.out (Vi a0) (Vi a1) (Vi a2) (Vi a3) (Vi a4) (Vi a5) (Vi a6) (Vi a7) (Vi a8) (Vi a9) (Vi a10) (Vi a11) (.slice (some (Ad G1 0)) 2 2) (.slice (some (Ad G2 0)) 2 2) (Vi a14);rw[←hU];go_roundw
    case rel=>exact⟨v',⟨l30,(hw 30 (by omega)).trans H30.out,HL30.out⟩,⟨l31,(hw 31 (by omega)).trans H31.out,HL31.out⟩,Or.inr (Or.inl ⟨rfl,hXU,⟨a0,a1,a2,a3,a4,a5,a6,a7,a8,a9,a10,a11,a14,G1,G2,gz,gx,gy,hv,hax,HG.out.1.cells (fun q c hq h=>hoth q c (by have:=HG.out.2;rcases hq with hq|hq<;>omega) h),HG.out.2⟩⟩)⟩
    case measure=>simp[intOf]
  · have HX:=Zab hX;have HA:=Zab hA;clear hX hA;have hraw2:Zhe a l wr.heap.size:=fun b off e hne=>Nat.lt_of_lt_of_le (hraw b off e hne) HX.out.2.2.2.1.size
    go_wp2_with (go_at_call 68;refine(axisFrom_any O a l cap 24 (by omega) hl _ HX.out.1 hraw2).mono ?_;rintro e y2 ⟨⟨a0,a1,a2,a3,a4,a5,a6,a7,a8,a9,a10,a11,a14,G1,G2,rfl,hax,⟨gz,gx,gy,hgl⟩,g1,g2⟩,hD,hK⟩;have HG:=Zab (show GL y2 G1 G2 gz gx gy∧B<G1∧B<G2 from⟨hgl,Nat.lt_of_lt_of_le HX.out.2.1.lt g1,Nat.lt_of_lt_of_le HX.out.2.1.lt g2⟩);have HKK:=Zab hK;have HX:=Zab (CXS.dk HX.out hD hK);clear hD hK hgl g1 g2;(obtain⟨⟨c0,f0⟩,⟨c1,f1⟩,⟨c2,f2⟩,⟨c3,f3⟩,⟨c4,f4⟩,⟨c5,f5⟩,⟨c6,f6⟩,⟨c7,f7⟩,⟨c8,f8⟩,⟨c9,f9⟩,⟨c10,f10⟩,⟨c11,f11⟩,⟨c12,f12⟩,⟨c13,f13⟩,⟨c14,f14⟩⟩:=cells15 HX.out.2.1));obtain⟨U,v',hU,hXU,hv,hw,hoth⟩:=puts15 HX.out (Vi a0) (Vi a1) (Vi a2) (Vi a3) (Vi a4) (Vi a5) (Vi a6) (Vi a7) (Vi a8) (Vi a9) (Vi a10) (Vi a11) (.slice (some (Ad G1 0)) 2 2) (.slice (some (Ad G2 0)) 2 2) (Vi a14);rw[←hU];go_roundw
    case rel=>exact⟨v',⟨l30,(hw 30 (by omega)).trans H30.out,HL30.out⟩,⟨l31,(hw 31 (by omega)).trans H31.out,HL31.out⟩,Or.inr (Or.inr ⟨rfl,hXU,HA.out.low (fun j _ hj=>hw j (by omega)) (fun q c hq h=>hoth q c (by omega) (HKK.out.cell (by have:=HX.out.2.2.2.2;omega) h)),⟨a0,a1,a2,a3,a4,a5,a6,a7,a8,a9,a10,a11,a14,G1,G2,gz,gx,gy,hv,hax,HG.out.1.cells (fun q c hq h=>hoth q c (by have:=HG.out.2;rcases hq with hq|hq<;>omega) h),HG.out.2⟩⟩)⟩
    case measure=>simp[intOf]
  · have HX:=Zab hX;have HA:=Zab hA;have HA2:=Zab hA2;clear hX hA hA2;obtain⟨a0,a1,a2,a3,a4,a5,a6,a7,a8,a9,a10,a11,a14,p,q,m1,m2,k1,k2,⟨h0,h1,h2,h3,h4,h5,h6,h7,h8,h9,h10,h11,h12,h13,h14⟩,_⟩:=HA.out.at;obtain⟨b0,b1,b2,b3,b4,b5,b6,b7,b8,b9,b10,b11,b14,pp,qq,n1,n2,j1,j2,⟨h15,h16,h17,h18,h19,h20,h21,h22,h23,h24,h25,h26,h27,h28,h29⟩,_⟩:=HA2.out.at;simp only[Nat.zero_add] at h0 h1 h2 h3 h4 h5 h6 h7 h8 h9 h10 h11 h12 h13 h14;have h30:=H30.out;have h31:=H31.out;have hRB:=range32 HX.out.2.1;rw[h0,h1,h2,h3,h4,h5,h6,h7,h8,h9,h10,h11,h12,h13,h14,h15,h16,h17,h18,h19,h20,h21,h22,h23,h24,h25,h26,h27,h28,h29,h30,h31] at hRB
    have ht:wr.there w.heap.size 0 32:=fun j hj=>by
     have:=HX.out.2.2.1 j hj;rw[Nat.zero_add];exact⟨by rw[this.1];rfl,this.2⟩
    have HR:=Zab (World.rangeAt_setCells_same wr w.heap.size 0 [Vi a0,Vi a1,Vi a2,Vi a3,Vi a4,Vi a5,Vi a6,Vi a7,Vi a8,Vi a9,Vi a10,Vi a11,.slice p m1 k1,.slice q m2 k2,Vi a14,Vi b0,Vi b1,Vi b2,Vi b3,Vi b4,Vi b5,Vi b6,Vi b7,Vi b8,Vi b9,Vi b10,Vi b11,.slice pp n1 j1,.slice qq n2 j2,Vi b14,Vi l30,Vi l31] ht);have HBU:=Zab (Zib (b:=w.heap.size) [Vi a0,Vi a1,Vi a2,Vi a3,Vi a4,Vi a5,Vi a6,Vi a7,Vi a8,Vi a9,Vi a10,Vi a11,.slice p m1 k1,.slice q m2 k2,Vi a14,Vi b0,Vi b1,Vi b2,Vi b3,Vi b4,Vi b5,Vi b6,Vi b7,Vi b8,Vi b9,Vi b10,Vi b11,.slice pp n1 j1,.slice qq n2 j2,Vi b14,Vi l30,Vi l31] 0 wr HX.out.2.2.2.1 (Nat.le_refl _))
    have hWB:w.heap.size<B:=by have:=HX.out.2.2.2.2;omega
    have HGS:∀(qa:Addr) (ca:Value),B<qa.block→wr.cell? qa=some ca→(wr.setCells w.heap.size 0 [Vi a0,Vi a1,Vi a2,Vi a3,Vi a4,Vi a5,Vi a6,Vi a7,Vi a8,Vi a9,Vi a10,Vi a11,.slice p m1 k1,.slice q m2 k2,Vi a14,Vi b0,Vi b1,Vi b2,Vi b3,Vi b4,Vi b5,Vi b6,Vi b7,Vi b8,Vi b9,Vi b10,Vi b11,.slice pp n1 j1,.slice qq n2 j2,Vi b14,Vi l30,Vi l31]).cell? qa=some ca:=fun qa ca hq=>gsets (b:=w.heap.size) (x:=qa) (c:=ca) (by omega) [Vi a0,Vi a1,Vi a2,Vi a3,Vi a4,Vi a5,Vi a6,Vi a7,Vi a8,Vi a9,Vi a10,Vi a11,.slice p m1 k1,.slice q m2 k2,Vi a14,Vi b0,Vi b1,Vi b2,Vi b3,Vi b4,Vi b5,Vi b6,Vi b7,Vi b8,Vi b9,Vi b10,Vi b11,.slice pp n1 j1,.slice qq n2 j2,Vi b14,Vi l30,Vi l31] 0 wr;generalize hU1:wr.setCells w.heap.size 0 [Vi a0,Vi a1,Vi a2,Vi a3,Vi a4,Vi a5,Vi a6,Vi a7,Vi a8,Vi a9,Vi a10,Vi a11,.slice p m1 k1,.slice q m2 k2,Vi a14,Vi b0,Vi b1,Vi b2,Vi b3,Vi b4,Vi b5,Vi b6,Vi b7,Vi b8,Vi b9,Vi b10,Vi b11,.slice pp n1 j1,.slice qq n2 j2,Vi b14,Vi l30,Vi l31]=U1 at HGS;have HU1:=Zab hU1;clear hU1;have hAF:AxFt U1 B v 0:=AxFt.low (w:=wr) (w':=U1) (K:=B) (s:=0) (v:=v) (v':=v) HA.out (fun j _ _=>Eq.refl (v j)) HGS;have HAF:=Zab (AxFt.mono hAF (Nat.le_of_lt hWB));clear hAF;have hAG:AxFt U1 B v 15:=AxFt.low (w:=wr) (w':=U1) (K:=B) (s:=15) (v:=v) (v':=v) HA2.out (fun j _ _=>Eq.refl (v j)) HGS;have HAG:=Zab (AxFt.mono hAG (Nat.le_of_lt hWB));clear hAG;clear HGS;have HH:=Zab (show(Value.agg #[Vi a0,Vi a1,Vi a2,Vi a3,Vi a4,Vi a5,Vi a6,Vi a7,Vi a8,Vi a9,Vi a10,Vi a11,.slice p m1 k1,.slice q m2 k2,Vi a14,Vi b0,Vi b1,Vi b2,Vi b3,Vi b4,Vi b5,Vi b6,Vi b7,Vi b8,Vi b9,Vi b10,Vi b11,.slice pp n1 j1,.slice qq n2 j2,Vi b14,Vi l30,Vi l31])=.agg #[v 0,v 1,v 2,v 3,v 4,v 5,v 6,v 7,v 8,v 9,v 10,v 11,v 12,v 13,v 14,v 15,v 16,v 17,v 18,v 19,v 20,v 21,v 22,v 23,v 24,v 25,v 26,v 27,v 28,v 29,v 30,v 31] by rw[h0,h1,h2,h3,h4,h5,h6,h7,h8,h9,h10,h11,h12,h13,h14,h15,h16,h17,h18,h19,h20,h21,h22,h23,h24,h25,h26,h27,h28,h29,h30,h31]);clear h0 h1 h2 h3 h4 h5 h6 h7 h8 h9 h10 h11 h12 h13 h14 h15 h16 h17 h18 h19 h20 h21 h22 h23 h24 h25 h26 h27 h28 h29 h30 h31
    go_wp2_with (first
     |(refine Lq 29 _ rfl ?_;refine wpList_load_mid rfl 29 (.tmp 4) rfl B 0 rfl [Vi a0,Vi a1,Vi a2,Vi a3,Vi a4,Vi a5,Vi a6,Vi a7,Vi a8,Vi a9,Vi a10,Vi a11,.slice p m1 k1,.slice q m2 k2,Vi a14,Vi b0,Vi b1,Vi b2,Vi b3,Vi b4,Vi b5,Vi b6,Vi b7,Vi b8,Vi b9,Vi b10,Vi b11,.slice pp n1 j1,.slice qq n2 j2,Vi b14,Vi l30,Vi l31] _ hRB underlying29 rfl Zaw ?_)
     |(refine Sq 29 _ _ rfl ?_;refine wpList_store_mid rfl 29 (.tmp 2) (.tmp 24) rfl w.heap.size 0 #[Vi a0,Vi a1,Vi a2,Vi a3,Vi a4,Vi a5,Vi a6,Vi a7,Vi a8,Vi a9,Vi a10,Vi a11,.slice p m1 k1,.slice q m2 k2,Vi a14,Vi b0,Vi b1,Vi b2,Vi b3,Vi b4,Vi b5,Vi b6,Vi b7,Vi b8,Vi b9,Vi b10,Vi b11,.slice pp n1 j1,.slice qq n2 j2,Vi b14,Vi l30,Vi l31] rfl rfl ht Zaw (Zaq _ rfl) ?_))
    generalize wr.setCells w.heap.size 0 [Vi a0,Vi a1,Vi a2,Vi a3,Vi a4,Vi a5,Vi a6,Vi a7,Vi a8,Vi a9,Vi a10,Vi a11,.slice p m1 k1,.slice q m2 k2,Vi a14,Vi b0,Vi b1,Vi b2,Vi b3,Vi b4,Vi b5,Vi b6,Vi b7,Vi b8,Vi b9,Vi b10,Vi b11,.slice pp n1 j1,.slice qq n2 j2,Vi b14,Vi l30,Vi l31]=U at *;obtain rfl:=HU1.out;refine bodyPost_ret (v:=.agg #[Vi a0,Vi a1,Vi a2,Vi a3,Vi a4,Vi a5,Vi a6,Vi a7,Vi a8,Vi a9,Vi a10,Vi a11,.slice p m1 k1,.slice q m2 k2,Vi a14,Vi b0,Vi b1,Vi b2,Vi b3,Vi b4,Vi b5,Vi b6,Vi b7,Vi b8,Vi b9,Vi b10,Vi b11,.slice pp n1 j1,.slice qq n2 j2,Vi b14,Vi l30,Vi l31]) ?_ rfl ⟨⟨v,by rw[HH.out],HAF.out,HAG.out,⟨_,H30.out,HL30.out⟩,_,H31.out,HL31.out⟩,HBU.out⟩;exact res_craft _ U w.heap.size [Vi a0,Vi a1,Vi a2,Vi a3,Vi a4,Vi a5,Vi a6,Vi a7,Vi a8,Vi a9,Vi a10,Vi a11,.slice p m1 k1,.slice q m2 k2,Vi a14,Vi b0,Vi b1,Vi b2,Vi b3,Vi b4,Vi b5,Vi b6,Vi b7,Vi b8,Vi b9,Vi b10,Vi b11,.slice pp n1 j1,.slice qq n2 j2,Vi b14,Vi l30,Vi l31] rfl HR.out rfl
end Go.Proofs.YtnfdfiholcelaaaGreatDoor
namespace Go.Proofs.YtnfdfiholcelaaaGreatDoor.Plain
set_option linter.unusedVariables false
abbrev Rd:=Int×Int×Int×Int
def rlt(x y:Rd):Bool:=decide (x.1<y.1)||(decide (x.1=y.1)&&decide (x.2.1<y.2.1))
def req(x y:Rd):Bool:=decide (x.1=y.1)&&decide (x.2.1=y.2.1)
theorem Zfm{x y:Rd}:rlt x y=true↔x.1<y.1∨(x.1=y.1∧x.2.1<y.2.1):=by simp[rlt]
theorem req_iff{x y:Rd}:req x y=true↔x.1=y.1∧x.2.1=y.2.1:=by simp[req]
theorem rlt_no{x y:Rd}:rlt x y=false↔¬(x.1<y.1∨(x.1=y.1∧x.2.1<y.2.1)):=by rw[←Zfm];simp
theorem req_no{x y:Rd}:req x y=false↔¬(x.1=y.1∧x.2.1=y.2.1):=by rw[←req_iff];simp
theorem rlt_trans{x y z:Rd}(h:rlt x y=true)(k:rlt y z=true):rlt x z=true:=by
 rw[Zfm] at *;omega
theorem rlt_irrefl(x:Rd):rlt x x=false:=by rw[rlt_no];omega
theorem rlt_other{y r:Rd}(h:rlt y r=false)(k:req y r=false):rlt r y=true:=by
 rw[rlt_no] at h;rw[req_no] at k;rw[Zfm];omega
theorem rlt_req{y r z:Rd}(k:req y r=true)(h:rlt y z=true):rlt r z=true:=by
 rw[req_iff] at k;rw[Zfm] at *;omega
theorem rlt_ne{x y:Rd}(h:rlt x y=true):req x y=false:=by rw[Zfm] at h;rw[req_no];omega
theorem rlt_ne'{x y:Rd}(h:rlt x y=true):req y x=false:=by rw[Zfm] at h;rw[req_no];omega
def ins(r:Rd):List Rd→List Rd
 |[]=>[r]
 |y::t=>if rlt y r=true then y::ins r t else if req y r=true then r::t else r::y::t
theorem mem_ins{r z:Rd}:∀{l:List Rd},z∈ins r l→z=r∨z∈l
 |[],h=>by simp[ins] at h;exact .inl h
 |y::t,h=>by
  unfold ins at h
  split at h
  · rcases List.mem_cons.1 h with rfl|h
    · exact .inr (by simp)
    · rcases mem_ins h with h|h
      · exact .inl h
      · exact .inr (by simp[h])
  · split at h
    · rcases List.mem_cons.1 h with rfl|h
      · exact .inl rfl
      · exact .inr (by simp[h])
    · rcases List.mem_cons.1 h with rfl|h
      · exact .inl rfl
      · exact .inr h
theorem ins_sorted(r:Rd):∀{l:List Rd},l.Pairwise (fun x y=>rlt x y=true)→(ins r l).Pairwise (fun x y=>rlt x y=true)
 |[],_=>by simp[ins]
 |y::t,h=>by
  obtain⟨h1,h2⟩:=List.pairwise_cons.1 h
  unfold ins
  split
  · rename_i hy
    refine List.pairwise_cons.2 ⟨fun z hz=>?_,ins_sorted r h2⟩
    rcases mem_ins hz with rfl|hz
    · exact hy
    · exact h1 z hz
  · rename_i hy
    split
    · rename_i hq
      exact List.pairwise_cons.2 ⟨fun z hz=>rlt_req hq (h1 z hz),h2⟩
    · rename_i hq
      have hr:rlt r y=true:=rlt_other (by simpa using hy) (by simpa using hq);refine List.pairwise_cons.2 ⟨fun z hz=>?_,h⟩
      rcases List.mem_cons.1 hz with rfl|hz
      · exact hr
      · exact rlt_trans hr (h1 z hz)
theorem filter_self{r:Rd}{l:List Rd}(h:∀z∈l,req z r=false):l.filter (fun z=>!req z r)=l:=
 List.filter_eq_self.2 fun z hz=>by simp[h z hz]
theorem ins_perm(r:Rd):∀{l:List Rd},l.Pairwise (fun x y=>rlt x y=true)→(ins r l).Perm (r::l.filter (fun z=>!req z r))
 |[],_=>by simp[ins]
 |y::t,h=>by
  obtain⟨h1,h2⟩:=List.pairwise_cons.1 h
  unfold ins
  split
  · rename_i hy
    rw[List.filter_cons_of_pos (by simp[rlt_ne hy])];exact((ins_perm r h2).cons y).trans (List.Perm.swap r y _)
  · rename_i hy
    split
    · rename_i hq
      rw[List.filter_cons_of_neg (by simp[hq]),filter_self fun z hz=>rlt_ne' (rlt_req hq (h1 z hz))]
    · rename_i hq
      have hr:rlt r y=true:=rlt_other (by simpa using hy) (by simpa using hq);rw[filter_self fun z hz=>?_]
      rcases List.mem_cons.1 hz with rfl|hz
      · simpa using hq
      · exact rlt_ne' (rlt_trans hr (h1 z hz))
theorem ins_length(r:Rd):∀(l:List Rd),(ins r l).length≤l.length+1
 |[]=>by simp[ins]
 |y::t=>by
  unfold ins
  split
  · have:=ins_length r t;simp;omega
  · split<;>simp
def pos(r:Rd):List Rd→Nat
 |[]=>0
 |y::t=>if rlt y r=true then pos r t+1 else 0
def rat(l:List Rd)(k:Nat):Rd:=l.getD k (0,0,0,0)
theorem rat_eq{l:List Rd}{k:Nat}(h:k<l.length):rat l k=l[k]:=by simp[rat,h]
theorem pos_le(r:Rd):∀l:List Rd,pos r l≤l.length
 |[]=>by simp[pos]
 |y::t=>by
  unfold pos
  split
  · have:=pos_le r t;simp;omega
  · simp
theorem pos_ahead(r:Rd):∀(l:List Rd) (k:Nat),k<pos r l→rlt (rat l k) r=true
 |[],k,h=>by simp[pos] at h
 |y::t,k,h=>by
  unfold pos at h
  split at h
  · rename_i hy
    cases k with
    |zero=>exact hy
    |succ k=>exact pos_ahead r t k (by omega)
  · omega
theorem pos_stop(r:Rd):∀(l:List Rd),pos r l<l.length→rlt (rat l (pos r l)) r=false
 |[],h=>by simp at h
 |y::t,h=>by
  unfold pos at h⊢
  split at h
  · rename_i hy
    rw[if_pos hy];exact pos_stop r t (by simpa using h)
  · rename_i hy
    rw[if_neg hy]
    simpa[rat] using hy
theorem pos_is(r:Rd)(l:List Rd)(k:Nat)(hk:k≤l.length)(ha:∀j,j<k→rlt (rat l j) r=true)(hs:k=l.length∨rlt (rat l k) r=false):pos r l=k:=by
 rcases Nat.lt_trichotomy (pos r l) k with h|h|h
 · have:=pos_stop r l (by omega);rw[ha _ h] at this;cases this
 · exact h
 · rcases hs with hs|hs
   · have:=pos_le r l;omega
   · rw[pos_ahead r l k h] at hs;cases hs
theorem ins_set(r:Rd):∀(l:List Rd),pos r l<l.length→req (rat l (pos r l)) r=true→ins r l=l.set (pos r l) r
 |[],h,_=>by simp at h
 |y::t,h,q=>by
  unfold pos at h q⊢
  unfold ins
  split at h
  · rename_i hy
    rw[if_pos hy,if_pos hy,List.set_cons_succ];rw[if_pos hy] at q;rw[ins_set r t (by simpa using h) q]
  · rename_i hy
    rw[if_neg hy] at q;rw[if_neg hy,if_neg hy,if_pos (by simpa[rat] using q),List.set_cons_zero]
theorem ins_put(r:Rd):∀(l:List Rd),(pos r l=l.length∨req (rat l (pos r l)) r=false)→ins r l=l.take (pos r l)++r::l.drop (pos r l)
 |[],_=>by simp[ins,pos]
 |y::t,q=>by
  unfold pos at q⊢
  unfold ins
  by_cases hy:rlt y r=true
  · simp only[hy,if_true] at q⊢;rw[ins_put r t (q.imp (fun q=>by simpa using q) (fun q=>q))]
    simp
  · rw[if_neg hy] at q⊢;rw[if_neg hy]
    rcases q with q|q
    · simp at q
    · rw[if_neg (by simpa[rat] using q)]
      simp
def gat(f:Int→Option Rd)(ws:List Int):List Rd:=ws.foldl (fun acc x=>match f x with|some r=>ins r acc|none=>acc) []
def bads(f:Int→Option Rd)(ws:List Int):Nat:=(ws.filter fun x=>(f x).isNone).length
theorem Zga(f:Int→Option Rd)(ws:List Int)(x:Int):gat f (ws++[x])=match f x with|some r=>ins r (gat f ws)|none=>gat f ws:=by
 simp[gat,List.foldl_append]
theorem Zjd(f:Int→Option Rd)(ws:List Int)(x:Int):bads f (ws++[x])=bads f ws+(if(f x).isNone then 1 else 0):=by
 unfold bads
 rw[List.filter_append,List.length_append]
 cases h:(f x).isNone<;>simp[h]
theorem Zhs{α:Type}(l:List α)(z:α)(k:Nat)(h:k<l.length):l.take (k+1)=l.take k++[l.getD k z]:=by
 rw[List.take_add_one];simp[h]
theorem snoc_ind{α:Type}{P:List α→Prop}(h0:P [])(h1:∀l x,P l→P (l++[x])):∀l,P l:=by
 intro l
 have:P l.reverse.reverse:=by
  induction l.reverse with
  |nil=>exact h0
  |cons x t ih=>rw[List.reverse_cons];exact h1 _ x ih
 rwa[List.reverse_reverse] at this
theorem gat_sorted(f:Int→Option Rd):∀ws,(gat f ws).Pairwise (fun x y=>rlt x y=true):=
 snoc_ind (by simp[gat]) fun l x ih=>by
  rw[Zga]
  cases f x with
  |none=>exact ih
  |some r=>exact ins_sorted r ih
theorem Zhm(f:Int→Option Rd):∀ws,(gat f ws).length≤ws.length:=
 snoc_ind (by simp[gat]) fun l x ih=>by
  rw[Zga]
  cases f x with
  |none=>simp;omega
  |some r=>have:=ins_length r (gat f l);simp;omega
theorem gat_mem(f:Int→Option Rd):∀ws r,r∈gat f ws→∃x∈ws,f x=some r:=
 snoc_ind (by simp[gat]) fun l x ih=>by
  intro r;rw[Zga];intro h
  cases hf:f x with
  |none=>rw[hf] at h;obtain⟨y,hy,e⟩:=ih r h;exact⟨y,by simp[hy],e⟩
  |some r'=>
   rw[hf] at h
   rcases mem_ins h with rfl|h
   · exact⟨x,by simp,hf⟩
   · obtain⟨y,hy,e⟩:=ih r h;exact⟨y,by simp[hy],e⟩
theorem bads_le(f:Int→Option Rd)(ws:List Int):bads f ws≤ws.length:=List.length_filter_le _ _
def cmpI(a b:Int):Int:=if a<b then -1 else if b<a then 1 else 0
def rcf(x y:Rd):Int:=if cmpI x.1 y.1=0 then cmpI x.2.1 y.2.1 else cmpI x.1 y.1
theorem rcf_lt(x y:Rd):decide (rcf x y<0)=rlt x y:=by
 unfold rcf cmpI rlt
 by_cases h1:x.1<y.1
 · simp[h1]
 · by_cases h2:y.1<x.1
   · have:¬x.1=y.1:=by omega
     simp[h1,h2,this]
   · have:x.1=y.1:=by omega
     by_cases h3:x.2.1<y.2.1
     · simp[this,h3]
     · by_cases h4:y.2.1<x.2.1
       · simp[this,h3,h4]
       · simp[this,h3,h4]
theorem swo_rcf:Go.Sort.SWO (fun x y:Rd=>decide (rcf x y<0)) where
 irrefl x:=by rw[rcf_lt];exact rlt_irrefl x
 trans x y z h k:=by rw[rcf_lt] at *;exact rlt_trans h k
 ntrans x y z h k:=by rw[rcf_lt] at *;rw[rlt_no] at *;omega
theorem Zhd{l:List Rd}(h:l.Pairwise (fun x y=>rlt x y=true)){a b:Rd}(ha:a∈l)(hb:b∈l)(h1:rlt a b=false)(h2:rlt b a=false):a=b:=by
 obtain⟨i,hi,rfl⟩:=List.getElem_of_mem ha;obtain⟨j,hj,rfl⟩:=List.getElem_of_mem hb;have hp:=List.pairwise_iff_getElem.1 h
 rcases Nat.lt_trichotomy i j with e|e|e
 · rw[hp i j hi hj e] at h1;cases h1
 · subst e;rfl
 · rw[hp j i hj hi e] at h2;cases h2
theorem sorted_is{l l':List Rd}(hs:l.Pairwise (fun x y=>rlt x y=true))(hp:l'.Perm l)(hs':l'.Pairwise (fun x y=>rlt y x=false)):l'=l:=by
 refine List.Perm.eq_of_pairwise (le:=fun x y=>rlt y x=false) ?_ hs' (hs.imp fun {x y} h=>?_) hp
 · intro a b ha hb h1 h2;exact Zhd hs (hp.mem_iff.1 ha) hb h2 h1
 · rw[Zfm] at h;rw[rlt_no];omega
theorem sortedIn_is{l:List Rd}{d d':Array Rd}(hs:l.Pairwise (fun x y=>rlt x y=true))(hd:d.toList.Perm l)(hp:Go.Sort.PermIn 0 d.size d d')(hso:Go.Sort.SortedIn (fun x y=>decide (rcf x y<0)) 0 d.size d'):d'.toList=l:=by
 obtain⟨hsz,_,hperm⟩:=hp
 have e1:d'.extract 0 d.size=d':=by rw[←hsz];exact Array.extract_size
 rw[e1,Array.extract_size] at hperm;refine sorted_is hs (hperm.trans hd) ?_;rw[List.pairwise_iff_getElem];intro i j hi hj hij
 have hi':i<d'.size:=by simpa using hi
 have hj':j<d'.size:=by simpa using hj
 have:=hso i j (Nat.zero_le _) hij (by omega);simp only[rcf_lt] at this;rw[getElem!_pos d' j hj',getElem!_pos d' i hi'] at this
 simpa using this
def fnd(a b:Int):List Rd→Option Rd
 |[]=>none
 |r::t=>if r.1=a∧r.2.1=b then some r else fnd a b t
theorem fnd_step(a b:Int)(l:List Rd)(k:Nat)(h:k<l.length):fnd a b (l.drop k)=if(rat l k).1=a∧(rat l k).2.1=b then some (rat l k) else fnd a b (l.drop (k+1)):=by
 rw[List.drop_eq_getElem_cons h,rat_eq h,fnd]
end Go.Proofs.YtnfdfiholcelaaaGreatDoor.Plain
namespace Go.Proofs.YtnfdfiholcelaaaGreatDoor
open Go.RowKit Plain Tryz
def Q4(w:World)(g o:Nat)(r:Rd):Prop:=w.cell? (Ad g o)=some (Vi r.1)∧w.cell? (Ad g (o+1))=some (Vi r.2.1)∧w.cell? (Ad g (o+2))=some (Vi r.2.2.1)∧w.cell? (Ad g (o+3))=some (Vi r.2.2.2)
def Rds(w:World)(a:Option Addr)(l:List Rd):Prop:=l=[]∨∃g,a=some (Ad g 0)∧∀k,k<l.length→Q4 w g (k*4) (rat l k)
theorem Q4.later{w w':World}{g o:Nat}{r:Rd}(h:Q4 w g o r)(hb:Below w.heap.size w w'):Q4 w' g o r:=⟨cell_later hb h.1,cell_later hb h.2.1,cell_later hb h.2.2.1,cell_later hb h.2.2.2⟩
theorem Rds.later{w w':World}{a:Option Addr}{l:List Rd}(h:Rds w a l)(hb:Below w.heap.size w w'):Rds w' a l:=by
 rcases h with h|⟨g,h,hc⟩
 · exact .inl h
 · exact .inr ⟨g,h,fun k hk=>(hc k hk).later hb⟩
theorem Rds.at{w:World}{a:Option Addr}{l:List Rd}(h:Rds w a l){k:Nat}(hk:k<l.length):∃g,a=some (Ad g 0)∧Q4 w g (k*4) (rat l k):=by
 rcases h with rfl|⟨g,h,hc⟩
 · simp at hk
 · exact⟨g,h,hc k hk⟩
def Blk(t:TypeId)(u:World)(B:Nat)(cs:List Value):Prop:=u.heap[B]?=some (.cells cs.toArray t (0,0))
section
variable {t : TypeId} {u u' : World} {B V : Nat} {cs : List Value}
theorem Blk.new(u:World)(t:TypeId)(cs:List Value):Blk t (u.alloc (.cells cs.toArray t)) u.heap.size cs:=World.alloc_heap_new u _
theorem Blk.lt(h:Blk t u B cs):B<u.heap.size:=(Array.getElem?_eq_some_iff.1 h).1
theorem Blk.later(h:Blk t u B cs)(hb:Below u.heap.size u u'):Blk t u' B cs:=(hb.block B h.lt).trans h
theorem Blk.cell(h:Blk t u B cs){j:Nat}{v:Value}(hv:cs[j]?=some v):u.cell? (Ad B j)=some v∧u.frozen? (Ad B j)=false:=by
 unfold Blk at h
 constructor
 · simp only[World.cell?,h];simp only[Option.isSome_none,Bool.false_eq_true,if_false]
   simpa using hv
 · simp[World.frozen?,h]
theorem Blk.range(h:Blk t u B cs):u.rangeAt B 0 cs:=fun j v hv=>by rw[Nat.zero_add];exact(h.cell hv).1
theorem Blk.sub(h:Blk t u B cs)(o n:Nat):u.rangeAt B o ((cs.drop o).take n):=fun j v hv=>by
 rw[List.getElem?_take] at hv
 split at hv
 · rw[List.getElem?_drop] at hv;exact(h.cell hv).1
 · cases hv
theorem Blk.there(h:Blk t u B cs){o n:Nat}(hn:o+n≤cs.length):u.there B o n:=fun j hj=>by
 have hj':o+j<cs.length:=by omega
 have:=h.cell (List.getElem?_eq_getElem hj');exact⟨by rw[this.1];rfl,this.2⟩
theorem Blk.set(h:Blk t u B cs)(j:Nat)(v:Value):Blk t (u.setCell (Ad B j) v) B (cs.set j v):=by
 unfold Blk at h⊢
 rw[heap_setCell_same u B j cs.toArray t v h]
 simp
theorem Blk.far(h:Blk t u B cs)(hV:B≠V)(j:Nat)(v:Value):Blk t (u.setCell (Ad V j) v) B cs:=(heap_setCell_other u ⟨V,j,none⟩ B v hV).trans h
end
def putL(cs:List Value)(o:Nat):List Value→List Value
 |[]=>cs
 |v::r=>putL (cs.set o v) (o+1) r
theorem Blk.setCells{t:TypeId}{B:Nat}:∀(vs:List Value) (o:Nat) (u:World) (cs:List Value),Blk t u B cs→Blk t (u.setCells B o vs) B (putL cs o vs)
 |[],_,_,_,h=>h
 |v::r,o,u,cs,h=>Blk.setCells r (o+1) (u.setCell ⟨B,o,none⟩ v) (cs.set o v) (h.set o v)
theorem Blk.farCells{t:TypeId}{B V:Nat}{cs:List Value}(hV:B≠V):∀(vs:List Value) (o:Nat) (u:World),Blk t u B cs→Blk t (u.setCells V o vs) B cs
 |[],_,_,h=>h
 |v::r,o,u,h=>Blk.farCells hV r (o+1) (u.setCell ⟨V,o,none⟩ v) (h.far hV o v)
theorem Zag{K b:Nat}{w0:World}:∀(vs:List Value) (o:Nat) (w:World),Below K w0 w→K≤b→Below K w0 (w.setCells b o vs)
 |[],_,_,h,_=>h
 |v::r,o,w,h,hk=>Zag r (o+1) (w.setCell ⟨b,o,none⟩ v) (h.setCell (by simpa using hk) v) hk
def smp(l:List Rd)(x y:Int):Bool×Int:=match fnd x y l with
 |some r=>if r.2.2.1=3 then(true,r.2.2.2) else(false,0)
 |none=>(false,0)
structure Bk where
 b:Nat→Int
 o:Nat→Bool
 l:Int
def bkL(k:Bk):List Value:=[Vi (k.b 0),Vi (k.b 1),Vi (k.b 2),.bool (k.o 0),.bool (k.o 1),.bool (k.o 2),Vi k.l]
structure FS where
 bk:Nat→Bk
 sp:Nat→Option Addr
 sn:Nat→Nat
 sc:Nat→Nat
 hd:Nat→Int×Int×Int
 n:Int
structure CR where
 a:Nat→Nat→Int
 p:Nat→Option Addr
 q:Nat→Option Addr
 al:Nat→List Int
 zl:Nat→List Int
 cn:Nat→Nat
 cm:Nat→Nat
 c0:Int
 c1:Int
def hdL(h:Int×Int×Int):List Value:=[Vi h.1,Vi h.2.1,Vi h.2.2]
def stL(S:FS):List Value:=bkL (S.bk 0)++bkL (S.bk 1)++bkL (S.bk 2)++[.slice (S.sp 0) (S.sn 0) (S.sc 0),.slice (S.sp 1) (S.sn 1) (S.sc 1)]++hdL (S.hd 0)++hdL (S.hd 1)++[Vi S.n]
def axL(C:CR)(i:Nat):List Value:=[Vi (C.a i 0),Vi (C.a i 1),Vi (C.a i 2),Vi (C.a i 3),Vi (C.a i 4),Vi (C.a i 5),Vi (C.a i 6),Vi (C.a i 7),Vi (C.a i 8),Vi (C.a i 9),Vi (C.a i 10),Vi (C.a i 11),.slice (C.p i) (C.al i).length (C.cn i),.slice (C.q i) (C.zl i).length (C.cm i),Vi (C.a i 14)]
def crL(C:CR):List Value:=axL C 0++axL C 1++[Vi C.c0,Vi C.c1]
def frL(S:FS)(C:CR)(x:Value):List Value:=stL S++crL C++[x]
def upd{α:Type}(f:Nat→α)(i:Nat)(v:α):Nat→α:=fun j=>if j=i then v else f j
theorem Zan{α:Type}(f:Nat→α)(i:Nat)(v:α):upd f i v i=v:=by simp[upd]
theorem Zbb{α:Type}(f:Nat→α){i j:Nat}(v:α)(h:j≠i):upd f i v j=f j:=by simp[upd,h]
section
variable (S : FS) (C : CR) (x : Value)
theorem frL_len:(frL S C x).length=63:=rfl
theorem st_bank{i:Nat}(hi:i<3):((stL S).drop (i*7)).take 7=bkL (S.bk i):=by
 rcases(show i=0∨i=1∨i=2 by omega) with rfl|rfl|rfl<;>rfl
theorem Zdq{i:Nat}(hi:i<2):(stL S)[21+i]?=some (.slice (S.sp i) (S.sn i) (S.sc i)):=by
 rcases(show i=0∨i=1 by omega) with rfl|rfl<;>rfl
theorem st_hold{i:Nat}(hi:i<2):((stL S).drop (23+i*3)).take 3=hdL (S.hd i):=by
 rcases(show i=0∨i=1 by omega) with rfl|rfl<;>rfl
theorem cr_axis{i:Nat}(hi:i<2):((crL C).drop (i*15)).take 15=axL C i:=by
 rcases(show i=0∨i=1 by omega) with rfl|rfl<;>rfl
theorem fr_bank{i:Nat}(hi:i<3):((frL S C x).drop (i*7)).take 7=bkL (S.bk i):=by
 rcases(show i=0∨i=1∨i=2 by omega) with rfl|rfl|rfl<;>rfl
theorem fr_last{i:Nat}(hi:i<3):(frL S C x)[i*7+6]?=some (Vi (S.bk i).l):=by
 rcases(show i=0∨i=1∨i=2 by omega) with rfl|rfl|rfl<;>rfl
theorem Zja{i:Nat}(hi:i<2):(frL S C x)[21+i]?=some (.slice (S.sp i) (S.sn i) (S.sc i)):=by
 rcases(show i=0∨i=1 by omega) with rfl|rfl<;>rfl
theorem fr_hold{i:Nat}(hi:i<2):((frL S C x).drop (23+i*3)).take 3=hdL (S.hd i):=by
 rcases(show i=0∨i=1 by omega) with rfl|rfl<;>rfl
theorem fr_law:(frL S C x)[29]?=some (Vi S.n):=rfl
theorem fr_axis{i:Nat}(hi:i<2):((frL S C x).drop (30+i*15)).take 15=axL C i:=by
 rcases(show i=0∨i=1 by omega) with rfl|rfl<;>rfl
theorem fr_surf{i:Nat}(hi:i<2):(frL S C x)[30+i*15+4]?=some (Vi (C.a i 4)):=by
 rcases(show i=0∨i=1 by omega) with rfl|rfl<;>rfl
theorem fr_craft:((frL S C x).drop 30).take 32=crL C:=rfl
theorem fr_axes:((frL S C x).drop 30).take 30=axL C 0++axL C 1:=rfl
theorem fr_said:(frL S C x)[62]?=some x:=rfl
theorem fr_putBank{i:Nat}(hi:i<3)(k:Bk):putL (frL S C x) (i*7) (bkL k)=frL { S with bk:=upd S.bk i k } C x:=by
 rcases(show i=0∨i=1∨i=2 by omega) with rfl|rfl|rfl<;>kernel_rfl
theorem fr_putHold{i:Nat}(hi:i<2)(h:Int×Int×Int):putL (frL S C x) (23+i*3) (hdL h)=frL { S with hd:=upd S.hd i h } C x:=by
 rcases(show i=0∨i=1 by omega) with rfl|rfl<;>kernel_rfl
theorem fr_putLaw(n:Int):(frL S C x).set 29 (Vi n)=frL { S with n:=n } C x:=by kernel_rfl
theorem st_putBank{i:Nat}(hi:i<3)(k:Bk):putL (stL S) (i*7) (bkL k)=stL { S with bk:=upd S.bk i k }:=by
 rcases(show i=0∨i=1∨i=2 by omega) with rfl|rfl|rfl<;>kernel_rfl
theorem st_putHold{i:Nat}(hi:i<2)(h:Int×Int×Int):putL (stL S) (23+i*3) (hdL h)=stL { S with hd:=upd S.hd i h }:=by
 rcases(show i=0∨i=1 by omega) with rfl|rfl<;>kernel_rfl
theorem st_putLaw(n:Int):(stL S).set 29 (Vi n)=stL { S with n:=n }:=by kernel_rfl
end
end Go.Proofs.YtnfdfiholcelaaaGreatDoor
namespace Go.Proofs.YtnfdfiholcelaaaGreatDoor
open Go.RowKit Plain Go.Maps Go.WideMaps Tryz
theorem who_laid:laidOutB prog=true:=by kernel_rfl
theorem who_row:(241:TypeId)<prog.types.size:=of_decide_eq_true (by kernel_rfl)
theorem who_under:prog.underlying 241=some (.array 2 3):=by kernel_rfl
theorem who_cells:prog.cellsOf 241=2:=by kernel_rfl
theorem who_one:prog.cellsOf 3=1:=by kernel_rfl
theorem who_key:prog.keyType 241=true:=by kernel_rfl
theorem who_wide:(match prog.underlying 241 with|some (.array _ _)|some (.struct _)=>true|_=>false)=true:=by rw[who_under]
theorem who_at:prog.keyTypeAt 2 241=true:=by kernel_rfl
theorem who_law:KeyLaw prog 241:=deep_law_laid who_laid (m:=2) (by decide) who_row who_at who_wide
theorem Zik:Keyed prog 241:=Keyed.of_law who_law
theorem succ_of{n k:Nat}(h:k<n):∃m,n=m+1:=⟨n-1,by omega⟩
theorem who_size:∃m,prog.types.size=m+1:=succ_of who_row
def klI(a b:Int):Lit:=.string (keyBytes [.int .i64 a,.int .i64 b])
def wfR(r:Rd):Prop:=(Lit.int .i64 r.1).wf=true∧(Lit.int .i64 r.2.1).wf=true
theorem keyOf_who{a b:Int}(wa:(Lit.int .i64 a).wf=true)(wb:(Lit.int .i64 b).wf=true):keyOf prog 241 (.agg #[.int .i64 a,.int .i64 b])=some (klI a b):=by
 obtain⟨m,hm⟩:=who_size
 have hf:(Value.agg #[Vi a,Vi b]).formed prog 241=true:=by simp[Value.formed,who_cells]
 unfold keyOf
 rw[who_under,who_key,hf,hm]
 simp[Program.keyLits,who_cells,who_one,Value.cells,wa,wb,klI,List.range_succ]
theorem klI_inj{a b a' b':Int}(wa:(Lit.int .i64 a).wf=true)(wb:(Lit.int .i64 b).wf=true)(wa':(Lit.int .i64 a').wf=true)(wb':(Lit.int .i64 b').wf=true)(h:klI a b=klI a' b'):a=a'∧b=b':=by
 have:=Zik.inj (keyOf_who wa wb) (by rw[h];exact keyOf_who wa' wb')
 simpa using this
theorem klI_is(a b:Int):WideAt.IsKeyLit (klI a b):=trivial
theorem klI_same{r z:Rd}(hr:wfR r)(hz:wfR z):(klI z.1 z.2.1).sameKey (klI r.1 r.2.1)=req z r:=by
 cases h:req z r
 · cases hs:(klI z.1 z.2.1).sameKey (klI r.1 r.2.1)
   · rfl
   · have:=klI_inj hz.1 hz.2 hr.1 hr.2 (WideAt.sameKey_eq hs);rw[req_no] at h;exact absurd this h
 · rw[req_iff] at h;rw[h.1,h.2];exact WideAt.sameKey_self (klI_is _ _)
def encR(r:Rd):List Value:=[Vi r.1,Vi r.2.1,Vi r.2.2.1,Vi r.2.2.2]
def rdV(r:Rd):Value:=.agg #[Vi r.1,Vi r.2.1,Vi r.2.2.1,Vi r.2.2.2]
theorem rdV_inj{r z:Rd}(h:rdV r=rdV z):r=z:=by
 obtain⟨a,b,c,d⟩:=r;obtain⟨a',b',c',d'⟩:=z
 simp[rdV] at h
 simp[h]
section
variable {H : Type}
def datR(r:Rd):DataW H:=.agg [.lit (.int .i64 r.1),.lit (.int .i64 r.2.1),.lit (.int .i64 r.2.2.1),.lit (.int .i64 r.2.2.2)]
theorem datR_inj{r z:Rd}(h:(datR r:DataW H)=datR z):r=z:=by
 obtain⟨a,b,c,d⟩:=r;obtain⟨a',b',c',d'⟩:=z
 simp[datR] at h
 simp[h]
def rdRead(v:Value):Option (DataW H×List MemPlace):=
 match v with
 |.agg cs=>match cs.toList with
  |[.int .i64 a,.int .i64 b,.int .i64 c,.int .i64 d]=>some (datR (a,b,c,d),[])
  |_=>none
 |_=>none
theorem rdRead_mk(r:Rd):rdRead (H:=H) (rdV r)=some (datR r,[]):=rfl
theorem rdRead_inv{v:Value}{y:DataW H×List MemPlace}(h:rdRead v=some y):∃r,v=rdV r∧y=(datR r,[]):=by
 unfold rdRead at h
 split at h
 · rename_i cs
   split at h
   · rename_i a b c d e
     refine⟨(a,b,c,d),?_,by cases h;rfl⟩
     unfold rdV
     congr 1
     rw[←Array.toArray_toList (xs:=cs),e]
   · cases h
 · cases h
def entR(r:Rd):Lit×DataW H:=(klI r.1 r.2.1,datR r)
def RepM(D:DataW H)(l:List Rd):Prop:=∃es,D=.map es∧es.Perm (l.map entR)
theorem RepM.nil:RepM (.map []:DataW H) []:=⟨[],rfl,by simp⟩
theorem RepM.put{D:DataW H}{l:List Rd}{r:Rd}(h:RepM D l)(hl:∀z∈l,wfR z)(hr:wfR r)(hs:l.Pairwise (fun x y=>rlt x y=true)):RepM (D.put (klI r.1 r.2.1) (datR r)) (ins r l):=by
 obtain⟨es,rfl,hp⟩:=h;refine⟨_,rfl,(WideShapes.insert_perm _ _).trans ?_⟩
 have e1:(l.map (entR (H:=H))).filter (fun p=>!p.1.sameKey (klI r.1 r.2.1))=(l.filter (fun z=>!req z r)).map entR:=by
  rw[List.filter_map]
  congr 1
  refine List.filter_congr fun z hz=>?_
  show(!(klI z.1 z.2.1).sameKey (klI r.1 r.2.1))=!req z r
  rw[klI_same hr (hl z hz)]
 have e2:=(hp.filter (fun p=>!p.1.sameKey (klI r.1 r.2.1))).cons (klI r.1 r.2.1,(datR r:DataW H));rw[e1] at e2;exact e2.trans ((ins_perm r hs).map (entR (H:=H))).symm
def ColR(D:DataW H)(left:Lit→Bool)(ss:List Rd):Prop:=
 ss.Nodup∧(∀r∈ss,left (klI r.1 r.2.1)=false)∧∀k,has D k=true→left k=false→∃r∈ss,klI r.1 r.2.1=k
theorem ColR.start(D:DataW H):ColR D (has D) []:=⟨List.nodup_nil,by simp,fun k h1 h2=>by rw[h1] at h2;cases h2⟩
theorem RepM.found{D:DataW H}{l:List Rd}{kl:Lit}{r:Rd}(h:RepM D l)(hat:∀zd,D.atKey kl zd=datR r):r∈l∧kl=klI r.1 r.2.1:=by
 obtain⟨es,rfl,hp⟩:=h;have h1:=has_true_of_atKey hat;have h2:=hat .nil;simp only[DataW.atKey] at h2
 split at h2
 · rename_i p hf
   have hm:=List.mem_of_find?_eq_some hf;have hk:=List.find?_some hf;obtain⟨z,hz,e⟩:=List.mem_map.1 (hp.mem_iff.1 hm);subst e;obtain rfl:=datR_inj h2;exact⟨hz,(WideAt.sameKey_eq hk).symm⟩
 · simp[datR] at h2
theorem ColR.step{D:DataW H}{left:Lit→Bool}{ss:List Rd}{r:Rd}(h:ColR D left ss)(hlk:left (klI r.1 r.2.1)=true):ColR D (fun z=>left z&&!z.sameKey (klI r.1 r.2.1)) (ss++[r]):=by
 obtain⟨h1,h2,h3⟩:=h
 have hnew:r∉ss:=fun hx=>by have:=h2 r hx;rw[hlk] at this;cases this
 refine⟨List.nodup_append.2 ⟨h1,by simp,fun a ha b hb=>by simp at hb;subst hb;exact fun e=>hnew (e▸ha)⟩,fun z hz=>?_,fun k hk hl=>?_⟩
 · rcases List.mem_append.1 hz with hz|hz
   · simp[h2 z hz]
   · simp at hz;subst hz;simp[WideAt.sameKey_self (klI_is z.1 z.2.1)]
 · cases hlf:left k
   · obtain⟨z,hz,e⟩:=h3 k hk hlf;exact⟨z,by simp[hz],e⟩
   · have hl:(left k&&!k.sameKey (klI r.1 r.2.1))=false:=hl;rw[hlf] at hl
     have:k.sameKey (klI r.1 r.2.1)=true:=by simpa using hl
     exact⟨r,by simp,(WideAt.sameKey_eq this).symm⟩
theorem nodup_of_sorted{l:List Rd}(h:l.Pairwise (fun x y=>rlt x y=true)):l.Nodup:=h.imp fun {x y} h e=>by subst e;rw[rlt_irrefl] at h;cases h
theorem ColR.perm{D:DataW H}{left:Lit→Bool}{ss l:List Rd}(h:ColR D left ss)(hD:RepM D l)(hl:∀z∈l,wfR z)(hs:l.Pairwise (fun x y=>rlt x y=true))(hm:∀r∈ss,r∈l)(h0:∀k,left k=false):ss.Perm l:=by
 obtain⟨h1,h2,h3⟩:=h;obtain⟨es,rfl,hp⟩:=hD;refine(List.perm_ext_iff_of_nodup h1 (nodup_of_sorted hs)).2 fun r=>⟨hm r,fun hr=>?_⟩
 have hh:has (.map es) (klI r.1 r.2.1)=true:=by
  rw[has_eq,List.any_eq_true];exact⟨entR r,hp.mem_iff.2 (List.mem_map.2 ⟨r,hr,rfl⟩),WideAt.sameKey_self (klI_is _ _)⟩
 obtain⟨z,hz,e⟩:=h3 _ hh (h0 _);have hzl:=hm z hz;have:=klI_inj (hl z hzl).1 (hl z hzl).2 (hl r hr).1 (hl r hr).2 e;have:z=r:=Zhd hs hzl hr (by rw[rlt_no];omega) (by rw[rlt_no];omega);exact this▸hz
theorem RepM.size{D:DataW H}{l:List Rd}(h:RepM D l):Maps.size D=l.length:=by
 obtain⟨es,rfl,hp⟩:=h;rw[size_eq,hp.length_eq,List.length_map]
end
end Go.Proofs.YtnfdfiholcelaaaGreatDoor
