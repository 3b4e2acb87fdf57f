
import Derived.Test.YtnepnnkdgejheaaGreatDoorKp39
set_option maxRecDepth 100000
set_option maxHeartbeats 20000000
namespace Go.Proofs.YtnepnnkdgejheaaGreatDoor
open Go.RowKit Plain Tryz
variable {B i k:Nat}{C:CR}{f:Ft}{l:List Stp}{now:Int}{s:Stp}{u w:V6}
structure SA (C:CR) (s:Stp):Prop where
 k:∀i,i<2->-100<=s.k i/\s.k i<=100
 p:∀i,i<2->-C.a i 3<=s.p i/\s.p i<=C.a i 3
 z:∀i,i<2->0<=s.z i/\s.z i<=8589934591
 v:0<=s.v/\s.v<=262143
structure GI (C:CR) (n:Int) (q:FT):Prop where
 st:stE C q.S q.sv=0
 at4:∀i,i<2->∀k,k<4->-1000<=q.at' i k/\q.at' i k<=1000
 x:∀i,i<2->-(5000*n)<=q.x i/\q.x i<=5000*n
theorem Ziv{m:Nat}:A0 (List.replicate m svD) k=svD:=by
 unfold A0
 rw[List.getD_eq_getElem?_getD,List.getElem?_replicate]
 split<;>rfl
theorem KU(h:crE C=0)(hi:i<2):arB (C.a i 5) (C.a i 6) (C.a i 7) (C.a i 10)=true:=PH (show arE (C.a i 5) (C.a i 6) (C.a i 7) (C.a i 10)=0 from Xy h hi (k:=2) (by omega))
theorem Yl(h:crE C=0)(hi:i<2):(2<=C.a i 4/\C.a i 4<=4)/\0<=C.a i 3/\C.a i 3<=1000:=Uv (show rgE (C.a i 4) (C.a i 3)=0 from Xy h hi (k:=0) (by omega))
theorem Jiu(h:crE C=0)(hi:i<2):GOK (C.a i 0) (C.a i 1) (C.a i 2) (puI C i) (moI C i) (raI C i):=OD (Xy h hi (k:=3) (by omega))
theorem Jr3(h:crE C=0)(hi:i<2):2*C.a i 2<=C.a i 8/\C.a i 0<=0/\0<=C.a i 1:=by
 have:=(show fmE (C.a i 8) (C.a i 2) (C.a i 0) (C.a i 1)=0 from Xy h hi (k:=5) (by omega))
 unfold fmE at this
 split at this
 . cases this
 . omega
theorem GI.new(h:crE C=0):GI C 0 (q0 C):=by
 have ha:∀i,i<2->csE C i (List.replicate (C.a i 4).toNat svD)=0:=fun i hi=>by
  have r:=Yl h hi;have a:=KU h hi;have m:=Yh a
  unfold csE
  rw[List.length_replicate,if_pos (by omega)];refine YM _ fun k hk=>JX a ?_;rw[Ziv];exact TG (fun h=>by cases h) (fun _=>show(0:Int)<C.a i 10 by omega) (h1:=show -C.a i 5<=(0:Int)/\(0:Int)<=C.a i 5 by omega) (h2:=show(0:Int)<=0/\(0:Int)<=C.a i 10 by omega)
 have y:∀i,i<2->chE C i (0,0,0)=0:=fun i hi=>by
  have j:ruE (C.a i 0) (C.a i 1) (C.a i 11) (C.a i 14) (moI C i) (C.al i) (C.zl i)=0:=Xy h hi (k:=4) (by omega);have e:=YN h hi;have w:=Jr3 h hi
  unfold chE hoE
  rw[if_pos j,if_pos,if_pos]
  . simp only[asB,A1,Bool.and_eq_true,decide_eq_true_eq];omega
  . simp only[stB,A1,Bool.and_eq_true,decide_eq_true_eq];omega
 refine⟨Jh7 h fun k hk=>?_,fun _ _ _ _=>by show -1000<=(0:Int)/\(0:Int)<=1000;omega,fun _ _=>by show -(5000*0)<=(0:Int)/\(0:Int)<=5000*0;omega⟩
 rcases(show k=0\/k=1\/k=2\/k=3\/k=4\/k=5\/k=6\/k=7 by omega) with rfl|rfl|rfl|rfl|rfl|rfl|rfl|rfl
 . rfl
 . rfl
 . rfl
 . rfl
 . exact ha 0 (by omega)
 . exact y 0 (by omega)
 . exact ha 1 (by omega)
 . exact y 1 (by omega)
theorem Jpw{l:List Ft}{s:Sv}(h0:0<=C.a i 5)(h:-C.a i 5<=s.1/\s.1<=C.a i 5):-C.a i 5<=plc C l now i k s/\plc C l now i k s<=C.a i 5:=by
 unfold plc
 split
 . omega
 . split
   . exact Xb (by omega)
   . exact h
theorem Jiv{l:List Ft}{L:List Sv}(h:∀k,k<L.length->-1000<=plc C l now i k (A0 L k)/\plc C l now i k (A0 L k)<=1000):∀n:Nat,n<=L.length->-(1000*(n:Int))<=plU C l now i L n/\plU C l now i L n<=1000*(n:Int)
 |0,_=>by simp[plU]
 |n+1,hn=>by
  have a:=Jiv h n (by omega);have b:=h n (by omega);rw[plU];omega
section
variable {C : CR} {l : List Ft} {now n : Int} {q : FT} {s : Stp}
theorem GI.len(h:GI C n q)(hi:i<2):((q.sv i).length:Int)=C.a i 4:=(Xm h.st hi).1
theorem GI.cr(h:GI C n q):crE C=0:=(Yb h.st).1
theorem GI.may(h:GI C n q)(hs:SA C s):∀r∈saR C l now q.x q.at' s,Yf r=true:=Jb6 (fun _ hi=>(Yl h.cr hi).1.2) h.at4 hs.k
theorem GI.step(h:GI C n q)(hs:SA C s):GI C (n+1) (A7 C l now q s):=by
 have st:=UH (ws:=(saR C l now q.x q.at' s).map pk1) h.st
 have y:∀i,i<2->∀k,k<(vS3 C q.S (wsF C l now q s) q.sv i).length->-C.a i 5<=plc C l now i k (A0 (vS3 C q.S (wsF C l now q s) q.sv i) k)/\plc C l now i k (A0 (vS3 C q.S (wsF C l now q s) q.sv i) k)<=C.a i 5:=fun i hi k hk=>by
  have m:=Xm st hi;have e:=Yh (KU h.cr hi);have:=Y2 (Ui (CD _ m.2 k hk)).2;exact Jpw (by omega) this.1
 have j:∀i,i<2->C.a i 5<=1000/\0<=C.a i 5:=fun i hi=>by have:=Yh (KU h.cr hi);omega
 have ha:∀i,i<2->((vS3 C q.S (wsF C l now q s) q.sv i).length:Int)=C.a i 4:=fun i hi=>(Xm st hi).1;refine⟨st,fun i hi k hk=>?_,fun i hi=>?_⟩
 . show -1000<=(if k<(C.a i 4).toNat then _ else _)/\(if k<(C.a i 4).toNat then _ else _)<=1000
   have hl:=ha i hi
   split
   . have:=y i hi k (by omega);have:=j i hi;omega
   . exact h.at4 i hi k hk
 . show -(5000*(n+1))<=q.x i+plU C l now i (vS3 C q.S (wsF C l now q s) q.sv i) (C.a i 4).toNat+s.p i/\q.x i+plU C l now i (vS3 C q.S (wsF C l now q s) q.sv i) (C.a i 4).toNat+s.p i<=5000*(n+1)
   have hl:=ha i hi;have r:=Yl h.cr hi;have:=Jiv (C:=C) (l:=l) (now:=now) (i:=i) (L:=vS3 C q.S (wsF C l now q s) q.sv i) (fun k hk=>by have:=y i hi k hk;have:=j i hi;omega) (C.a i 4).toNat (by omega);have:=h.x i hi;have:=hs.p i hi
   omega
end
theorem PQ{C:CR}{l:List Ft}{ss:List Stp}(h:crE C=0)(hs:∀k,k<ss.length->SA C (BI ss k)):∀n:Nat,n<=ss.length->GI C n (flU C l ss n)
 |0,_=>GI.new h
 |n+1,hn=>by
  have:=(PQ (l:=l) h hs n (by omega)).step (l:=l) (now:=(n:Int)) (hs n (by omega));rw[flU];rw[show((n+1:Nat):Int)=(n:Int)+1 by omega];exact this
section
variable {C : CR} {l : List Ft} {now n : Int} {q : FT} {s : Stp}
end
def xkF(q Q:FT)(i:Nat):Nat->Int:=fun j=>if j<i then Q.x j else q.x j
def akF(q Q:FT)(i:Nat):Nat->Nat->Int:=fun j=>if j<i then Q.at' j else q.at' j
theorem Jiw(q Q:FT)(i:Nat):akF q Q i i=q.at' i:=if_neg (Nat.lt_irrefl i)
theorem Jix(q Q:FT)(i:Nat):akF q Q (i+1) i=Q.at' i:=if_pos (Nat.lt_succ_self i)
theorem Jiy(q Q:FT){j:Nat}(h:j≠i):akF q Q (i+1) j=akF q Q i j:=by
 unfold akF
 by_cases h1:j<i
 . rw[if_pos h1,if_pos (by omega)]
 . rw[if_neg h1,if_neg (by omega)]
theorem Jiz(q Q:FT):xkF q Q 0=q.x:=by funext j;unfold xkF;rw[if_neg (by omega)]
theorem Ji0(q Q:FT):akF q Q 0=q.at':=by funext j;unfold akF;rw[if_neg (by omega)]
theorem Jpx(C:CR)(y:V8)(m e:Nat)(S:FS)(now:Int)(q Q:FT):flL C y m e S now (xkF q Q 2) (akF q Q 2)=flL C y m e S now Q.x Q.at':=
 UT (fun j h=>by unfold xkF;rw[if_pos h]) (fun j h k _=>by unfold akF;rw[if_pos h])
theorem Jpy{K:Nat}{a:V8}{n c:Nat}{l:List Rd}(h:B9 K (.slice a n c) l w)(hK:B<K):∀g,a=some (Ad g 0)->g≠B:=by
 rintro g rfl rfl;have:=(h.1.lt g rfl).1
 omega
section
variable {C : CR} {l : List Ft} {now : Int} {q : FT} {s : Stp}
theorem PR(h0:stE C q.S q.sv=0):stE C (A7 C l now q s).S (A7 C l now q s).sv=0:=UH (ws:=(saR C l now q.x q.at' s).map pk1) h0
theorem UU(h0:stE C q.S q.sv=0):∀r∈rdA (A7 C l now q s).sv (A7 C l now q s).S.n,Yf r=true:=by
 have st:=PR (l:=l) (now:=now) (s:=s) h0;refine Jmo (Jbq (fun i hi=>?_) (fun i hi k hk=>?_) ?_)
 . have:=(Xm st hi).1;have:=(Yl (Yb st).1 hi).1;omega
 . have h:=Xm st hi;have y:=Yh (KU (Yb st).1 hi);have:=Y2 (Ui (CD _ h.2 k hk)).2
   omega
 . exact Zw (N6 ((Yb st).2 0 (by omega)))
theorem Jpz(B:Nat)(y:V8)(H:Nat)(T:FS)(hi:i<2)(w:V8)(Z:Nat)(h0:stE C q.S q.sv=0)(u:V6)(X:Blk 198 u B (flL C y l.length H T now (xkF q (A7 C l now q s) i) (akF q (A7 C l now q s) i)))(Q:Fts u y l)(hl:l.length<=1000)(G:Rds u w (gat A2 ((rdA (A7 C l now q s).sv (A7 C l now q s).S.n).map pk1)))(hd:∀g,w=some (Ad g 0)->g≠B)(R:l≠[]->∀g o,y=some (Ad g o)->g≠B)(hx:-10000000<=q.x i/\q.x i<=10000000)(J:-1000<=s.p i/\s.p i<=1000):
 Va 165 #[Ve B 0,Vi i,.slice w (gat A2 ((rdA (A7 C l now q s).sv (A7 C l now q s).S.n).map pk1)).length Z,Vi (s.p i)] u fun e w'=>e=.returned (.tuple #[])/\Blk 198 w' B (flL C y l.length H T now (xkF q (A7 C l now q s) (i+1)) (akF q (A7 C l now q s) (i+1)))/\Oth u w' B:=by
 have st:=PR (l:=l) (now:=now) (s:=s) h0;have hc:=(Yb h0).1;have P:=Yh (KU hc hi);have D:=Yl hc hi;have K:=UU (l:=l) (now:=now) (s:=s) h0;have ha:∀i,i<2->(((A7 C l now q s).sv i).length:Int)=C.a i 4:=fun i hi=>(Xm st hi).1
 have h4:∀i,i<2->((A7 C l now q s).sv i).length<=4:=fun i hi=>by have:=ha i hi;have:=(Yl hc hi).1;omega
 have Y:∀k:Nat,k<(C.a i 4).toNat->plR (C.a i 5) (fnd (64+4*(i:Int)+(k:Int)) 3 (gat A2 ((rdA (A7 C l now q s).sv (A7 C l now q s).S.n).map pk1))) (ail l now i k true)=plc C l now i k (A0 ((A7 C l now q s).sv i) k):=fun k hk=>by
  rw[Jir K hi h4 (by have:=ha i hi;omega),Jmj]
 have M:(gat A2 ((rdA (A7 C l now q s).sv (A7 C l now q s).S.n).map pk1)).length<=1000:=by
  have a:=Nt A2 ((rdA (A7 C l now q s).sv (A7 C l now q s).S.n).map pk1);have b:=h4 0 (by omega);have c:=h4 1 (by omega);rw[List.length_map,PP] at a
  omega
 have m:=Jil B C y H l T now _ _ i hi w Z _ (s.p i) _ rfl M u X Q hl (by omega) (by omega) G hd R (fun k=>Jpv (by omega)) (by unfold xkF;rw[if_neg (by omega)];exact hx) J;refine m.mono ?_;rintro e w' ⟨rfl,hb',ho⟩;refine⟨rfl,?_,ho⟩;rw[Jb7 _ Y] at hb';rw[UT (x':=xkF q (A7 C l now q s) (i+1)) (a':=akF q (A7 C l now q s) (i+1))] at hb'
 . exact hb'
 . intro j N
   unfold upd xkF
   by_cases e:j=i
   . subst e;rw[if_pos rfl,if_neg (by omega),if_pos (by omega)]
     rfl
   . rw[if_neg e]
     by_cases h1:j<i
     . rw[if_pos h1,if_pos (by omega)]
     . rw[if_neg h1,if_neg (by omega)]
 . intro j N k hk;rw[Jps Y]
   by_cases e:j=i
   . subst e;rw[Jiw,Jix]
     show _=if k<(C.a j 4).toNat then plc C l now j k (A0 (vS3 C q.S (wsF C l now q s) q.sv j) k) else q.at' j k
     by_cases h1:k<(C.a j 4).toNat
     . rw[if_pos ⟨rfl,h1⟩,if_pos h1];rfl
     . rw[if_neg (fun h=>h1 h.2),if_neg h1]
   . rw[if_neg (fun h=>e h.1),Jiy _ _ e]
end
theorem Jel(B:Nat)(C:CR)(Z:V8)(X:Nat)(l:List Ft)(now:Int)(q:FT)(s:Stp)(w:V6)(hk:Blk 198 w B (flL C Z l.length X q.S now q.x q.at'))(R:Fts w Z l)(hl:l.length<=1000)(hj:0<=now/\now<=1000)(hs:SA C s)(hx:∀i,i<2->-10000000<=q.x i/\q.x i<=10000000)(ha:∀i,i<2->∀k,k<4->-1000<=q.at' i k/\q.at' i k<=1000)(hg:GV w)(hw:CrL w C)(hv:SvL w q.S q.sv)(h0:stE C q.S q.sv=0)(hm:l≠[]->∀g o,Z=some (Ad g o)->g≠B):
 Va 109 #[Ve B 0,.agg (A6 s).toArray] w fun e w'=>e=.returned .nilIface/\∃T,SaS T (A7 C l now q s).S/\Blk 198 w' B (flL C Z l.length X T (now+1) (A7 C l now q s).x (A7 C l now q s).at')/\SvL w' T (A7 C l now q s).sv/\SpN T w.heap.size/\Oth w w' B:=by
 have U:=(Yb h0).1
 have hN:∀i,i<2->0<=C.a i 2/\C.a i 2<=1000:=fun i hi=>by have g:=Jiu U hi;have:=g.n0;have:=g.n1;omega
 have h4:∀i,i<2->2<=C.a i 4/\C.a i 4<=4:=fun i hi=>(Yl U hi).1;have hz:=hs.z;have hC:=hs.k
 have hD:(saR C l now q.x q.at' s).length<=64:=by
  have a:=IP C l now q.x q.at' s (fun i hi=>(h4 i hi).2) 2 (by omega);have b:=IN l now s.v 3
  unfold saR
  rw[List.length_append,List.length_append]
  have:(if s.g then[((40:Int),(3:Int),(3:Int),(1:Int))] else[]).length<=1:=by split<;>simp
  omega
 have Hx:=Za (UU (l:=l) (now:=now) (s:=s) h0);have Hy:Hd (∀i,i<2->-1000<=s.p i/\s.p i<=1000):=Za (fun i hi=>by have:=hs.p i hi;have:=(Yl U hi).2;omega);have Hz:=Za hx;have HA:=Za hm;have Hr:=Za h0;have HB:=Za (fun u (h:Oth w u B)=>h.fts hm R);have HC:=Za hk;have Hs:=Za (show w.heap.size≠B from Nat.ne_of_gt hk.lt);have Hk:=Za hk.lt;obtain⟨now0,now1⟩:=hj;have HM:=Za (Jb6 (C:=C) (l:=l) (now:=now) (x:=q.x) (at':=q.at') (s:=s) (fun i hi=>(h4 i hi).2) ha hC);have HD:=Za (fun u (h:Bw w u)=>Jis B C Z X l q.S now q.x q.at' s u (hk.lq h) (R.lq h) hl hN h4 hz hx);have HE:=Za (Jmm C l now q.x q.at' s);have Y:=Za (Zb w (.cells (A6 s).toArray 70));have H:=Za (Blk.new w 70 (A6 s));have A:=Za (fun u (h:Bw w u)=>(Jr0 C Z l.length X q.S now q.x q.at')▸(hk.lq h).sub 0 32);have W:=Za (fun u (h:Bw w u)=>(Jr1 C Z l.length X q.S now q.x q.at')▸(hk.lq h).sub 33 30);have HF:=Za (fun u (h:Bw w u) a c (hU:BP u a ((saR C l now q.x q.at' s).map pk1))=>Jpr C q.S q.sv (saR C l now q.x q.at' s) HM.o a c u (hg.lq h) (hw.lq h) (hv.lq h) hU hD h0);have Hb:=Za h4;clear hk R hN h4 hz hx ha hC hs hm U
 go_enter func109,ntmps109
 go_upto_region 1 with fail;generalize w.alloc (.cells (A6 s).toArray 70)=v0 at *;generalize w.heap.size=QS at H Hs|-;have HG:=Za (H.o.range)
 go_upto_region 4 with(first
  |(refine Lq 70 _ rfl ?_;refine wpList_load_mid rfl 70 (.tmp 3) rfl QS 0 rfl (A6 s) _ HG.o underlying70 rfl (by rw[Wf];rfl) ?_)
  |(go_at_call 162;refine(HD.o _ Y.o).mono ?_;rintro e v1 ⟨⟨g,c,rfl,hE⟩,j⟩;have HH:=Za hE;replace Y:=Za (Zc Y.o j);replace H:=Za (H.o.lq j);clear j hE)
  |(go_at_call 161;refine(KG _ _ _ HE.o (by omega) (fun k hk=>HM.o _ (Jae hk)) _ HH.o).mono ?_;rintro e v2 ⟨⟨g2,c2,rfl,hL,hu⟩,j⟩;have HU:=Za hu;replace Y:=Za (Zc Y.o j);replace H:=Za (H.o.lq j);clear j hu hL))
 obtain⟨m,hc⟩:∃m,m=rdA (A7 C l now q s).sv (A7 C l now q s).S.n:=⟨_,rfl⟩;have HU:=UR _▸HU.o;have HI:Hd (∀i,i<2->1<=((A7 C l now q s).sv i).length):=Za (fun i hi=>by have e:(A7 C l now q s).sv i=vS3 C q.S (wsF C l now q s) q.sv i:=rfl;rw[e,Jbs _ hi];have:=(Xm h0 hi).1;have:=Hb.o i hi;omega);have HJ:Hd (1<=(m.map pk1).length):=Za (by rw[List.length_map,hc,PP];omega);replace A:=Za (A.o v2 Y.o);replace W:=Za (W.o v2 Y.o)
 have HK:Hd (∀u,Bw v2 u->Va 163 #[.agg (crL C).toArray,.agg (stL q.S).toArray,Vf g2 0 (saR C l now q.x q.at' s).length c2] u fun e w'=>(∃T g c,e=.returned (.tuple #[.agg (stL T).toArray,Vf g 0 m.length c,.nilIface])/\(T.bk=(A7 C l now q s).S.bk/\T.hd=(A7 C l now q s).S.hd/\T.n=(A7 C l now q s).S.n)/\SvL w' T (A7 C l now q s).sv/\BP w' (some (Ad g 0)) (m.map pk1)/\∀i,i<2->∃G,T.sp i=some (Ad G 0)/\v2.heap.size<=G)/\Bw u w'):=Za (fun u h=>by
  subst hc;refine(HF.o u (Zc Y.o h) _ _ (HU.lq h)).mono ?_;rintro e w' ⟨⟨T,g,c,h1,h2,h3,h4,h5⟩,j⟩
  exact⟨⟨T,g,c,h1,h2,h3,h4,fun i hi=>(h5 i hi).imp fun G hG=>⟨hG.1,Nat.le_trans h.size hG.2⟩⟩,j⟩)
 clear HF;have Hn:=Za hc;have HL:Hd (m.length<=64):=Za (by rw[hc,PP];have st:=PR (l:=l) (now:=now) (s:=s) Hr.o;have e0:=(Xm st (i:=0) (by omega)).1;have e1:=(Xm st (i:=1) (by omega)).1;have:=Hb.o 0 (by omega);have:=Hb.o 1 (by omega);omega);clear hc hv hw hg h0 hD HM HD HE;refine Cs [22,23,24,25,26,27,28,29,30,31,21,32,33,34,7] ?_;refine Cp 0 22 [] ?_;refine Cp 1 23 [0] ?_;refine Cp 2 24 [1] ?_;refine Cl (x:=.tmp 24) 3 25 [2] (fun y w hF u hn=>⟨Zf A.o hn,hF.1⟩) underlying41 Zr ?_;refine Cp 4 26 [] ?_;refine Cp 5 27 [4] ?_;refine Cp 6 28 [5] ?_;refine Cl (x:=.tmp 28) 7 29 [6] (fun y w hF u hn=>⟨Zf W.o hn,hF.1⟩) underlying110 Yj ?_;refine Cp 8 30 [] ?_;refine Cd 9 31 [3,7,8] (fun v u=>∃T g c,v=.tuple #[.agg (stL T).toArray,Vf g 0 m.length c,.nilIface]/\(T.bk=(A7 C l now q s).S.bk/\T.hd=(A7 C l now q s).S.hd/\T.n=(A7 C l now q s).S.n)/\SvL u T (A7 C l now q s).sv/\BP u (some (Ad g 0)) (m.map pk1)/\∀i,i<2->∃G,T.sp i=some (Ad G 0)/\v2.heap.size<=G) (fun y w h _=>(HK.o _ h).mono (by rintro e w' ⟨⟨T,g,c,rfl,h1,h2,h3,h4⟩,j⟩;exact⟨_,rfl,⟨T,g,c,rfl,h1,h2,h3,h4⟩,j⟩)) (fun _ _ _ ⟨T,g,c,e,h1,h2,h3,h4⟩ j=>⟨T,g,c,e,h1,h2.lq j,h3.lq j,h4⟩) ?_;refine Cu (fun y=>y 31) 10 21 [9] ?_ (hy:=fun y w _ u=>by go_simp);refine Cu (fun y=>tg (y 21) 0) 11 32 [10,9] ?_ (hy:=fun y w hF u=>by obtain⟨E,⟨T,g,c,e,-⟩,-⟩:=hF;simp only[show y 21=_ from E.trans e];go_simp;rfl);refine Cu (fun y=>tg (y 21) 1) 12 33 [10,9] ?_ (hy:=fun y w hF u=>by obtain⟨E,⟨T,g,c,e,-⟩,-⟩:=hF;simp only[show y 21=_ from E.trans e];go_simp;rfl);refine Cu (fun y=>tg (y 21) 2) 13 34 [10,9] ?_ (hy:=fun y w hF u=>by obtain⟨E,⟨T,g,c,e,-⟩,-⟩:=hF;simp only[show y 21=_ from E.trans e];go_simp;rfl);refine Ca 14 7 ?_;refine Cn 3 18 [15,16,17] (fun y F hB R=>?_);obtain⟨J,e,hA⟩:=R.1;have Hc:Hd (NB _ _ _ J Qag):=Za hA;(try simp only[e]);clear e hA
 obtain⟨T,g4,c4,e,hT,hp,hq,ht⟩:=R.2.2.2.2.2.1;simp only[e,tg];have HN:=Za hB;clear hB R;have I:Hd (Blk 110 F J zSt):=Za Hc.o.1;have Ht:=Za (NB.le Hc.o);clear Hc;refine Ra 15 (fun K hK=>?_);rw[if_pos (by rfl)];refine Z2 110 (.tmp 7) (.tmp 32) rfl J 0 (stL T).toArray rfl rfl (I.o.there0 T) (US T) (EF T) rfl ?_;have M:=Za (Zo (stL T) 0 F HN.o Ht.o);have Ho:=Za (I.o.setSt T);have Hu:=(Oth.refl F J).setCells (stL T) 0 F;have L:=Za (Hu.svl (fun i hi g o e=>by obtain⟨G,e2,_⟩:=ht i hi;rw[e2] at e;cases e;exact Jml I.o (by rw[<-e2];exact(hp i hi).2.2) (HI.o i hi)) hp);have HQ:=Za (Hu.u32 (fun g o e=>by cases e;exact Jmk I.o hq HJ.o) hq);refine hK.out _ _ M.o (fun _=>?_);clear hK K;refine Tq 16 M.o ?_;simp only[Act.put,Ly];refine Tq 17 M.o ?_;simp only[Act.put,Ly];refine Dn ?_;go_simp;generalize hU:F.setCells J 0 (stL T)=v3 at *;clear hU Hu hp hq I HN;refine Ek ?_;have N:=Za (Zc Y.o M.o);replace H:=Za (H.o.lq M.o)
 have HS:Hd (∀u,Bw v3 u->Va 164 #[Vf g4 0 m.length c4] u fun e w'=>(∃Q P,e=.returned (.tuple #[.slice Q (gat A2 (m.map pk1)).length P,Vi (BM A2 (m.map pk1)),.nilIface])/\Rds w' Q (gat A2 (m.map pk1))/\∀g,Q=some (Ad g 0)->g≠B)/\Bw u w'):=Za (fun u h=>by
  have k:=JW (some (Ad g4 0)) c4 (m.map pk1) (by rw[List.length_map];exact HL.o) u (Jip (Hn.o▸Hx.o) (HQ.o.lq h));rw[List.length_map] at k;refine k.mono ?_;rintro e w' ⟨⟨v,rfl,ho⟩,j⟩;obtain⟨Q,P,rfl,hr⟩:=ho.rds
  exact⟨⟨Q,P,rfl,hr,Jpy ho (Nat.lt_of_lt_of_le (Nat.lt_of_lt_of_le Hk.o N.o.size) h.size)⟩,j⟩)
 have HV:Hd (SpN T w.heap.size):=Za (fun i hi=>(ht i hi).imp fun G hG=>⟨hG.1,Nat.le_trans Y.o.size hG.2⟩);have HX:=Za (HV.o.svn Hk.o);have HT:=Za hT;clear M Y ht HQ HL HU Hx hT Ht A W HK HI HJ HH HG
 go_upto_region 10 with(go_at_call 164;refine(HS.o _ (Below.refl _ _)).mono ?_;rintro e v4 ⟨⟨Q,P,rfl,hr,hH⟩,j⟩;have O:=Za hr;have Hp:=Za hH;replace N:=Za (Zc N.o j);replace H:=Za (H.o.lq j);replace Ho:=Za (Ho.o.lq j);replace L:=Za (L.o.lq j);clear j hr hH);have D:=Za (HC.o.lq N.o);have HY:=Za (D.o.there (o:=33) (n:=(stL T).toArray.size) (Nat.le_of_ble_eq_true rfl))
 go_upto_region 12 with(first
  |(refine Lq 110 _ rfl ?_;refine wpList_load_mid rfl 110 (.tmp 7) rfl J 0 rfl (stL T) _ Ho.o.range underlying110 rfl (Mw T) ?_)
  |(refine Sq 110 _ _ rfl ?_;refine wpList_store_mid rfl 110 (.tmp 50) (.tmp 48) rfl B 33 (stL T).toArray rfl rfl HY.o (US T) (EF T) ?_))
 have Hv:=Blk.setCells (stL T) 33 v4 _ D.o;rw[Jit] at Hv;replace D:=Za Hv;have HZ:=Za (Oth.setCells (stL T) 33 v4 (Oth.below (B:=B) N.o));have Hq:=Oth.setCells (stL T) 33 v4 (Oth.refl v4 B);replace H:=Za (Hq.blk Hs.o H.o);replace L:=Za (Hq.svl HX.o L.o);replace O:=Za (Hq.rds Hp.o O.o);rw[Hn.o] at O;clear Hv Hq HY Ho N HC HS;generalize World.setCells _ B 33 _=v5 at*
 have H3:Hd (∀i,i<2->∀u,Blk 198 u B (flL C Z l.length X T now (xkF q (A7 C l now q s) i) (akF q (A7 C l now q s) i))->Oth v5 u B->Va 165 #[Ve B 0,Vi i,.slice Q (gat A2 (m.map pk1)).length P,Vi (s.p i)] u fun e w'=>e=.returned (.tuple #[])/\Blk 198 w' B (flL C Z l.length X T now (xkF q (A7 C l now q s) (i+1)) (akF q (A7 C l now q s) (i+1)))/\Oth u w' B):=Za (fun i hi u j ho=>by
  rw[Hn.o]
  exact Jpz B Z X T hi Q P Hr.o u j (HB.o u (HZ.o.trans ho)) hl (ho.rds Hp.o O.o) Hp.o HA.o (Hz.o i hi) (Hy.o i hi))
 rw[<-Jiz q (A7 C l now q s),<-Ji0 q (A7 C l now q s)] at D;clear O Hy Hz HA Hr HB Hk Hp
 go_loopw [51] (fun ix wr=>∃i:Nat,i<=2/\ix=Vi i/\Blk 198 wr B (flL C Z l.length X T now (xkF q (A7 C l now q s) i) (akF q (A7 C l now q s) i))/\Oth v5 wr B) (fun ix _=>2-(intOf ix).toNat)
 case atStart=>exact⟨0,by omega,rfl,D.o,Oth.refl _ _⟩
 case round=>
  clear D;obtain⟨i,hM,rfl,j,ho⟩:=hrel
  by_cases hi:i<2
  . have i0:(0:Int)<=(i:Int):=by omega
    have i1:(i:Int)<2:=by omega
    have ep:=((ho.blk Hs.o H.o).cell (Jif s hi)).1;have hI:=H3.o i hi wr j ho;have HO:=Za ho;clear j ho
    go_wp2_with (go_at_call 165;refine hI.mono ?_;rintro e v6 ⟨rfl,j,hJ⟩;have H4:=Za j;have H5:=Za (HO.o.trans hJ);clear j hJ ep hI);go_roundw
    case rel=>exact⟨i+1,by omega,by go_num,H4.o,H5.o⟩
    case measure=>simp[intOf];omega
  . obtain rfl:i=2:=by omega
    rw[Jpx] at j;have en:=j.cell (Jpt _ _ _ _ _ _ _ _);have en1:=en.1;have en2:=en.2;have Hw:=j.set 63 (Vi (now+1));rw[Jek] at Hw;have H6:=Za Hw;have HO:=Za ho;clear j ho en Hw;go_wp2_with fail;go_ret;exact⟨rfl,T,HT.o,H6.o,HO.o.set.svl HX.o L.o,HV.o,(HZ.o.trans HO.o).set⟩
theorem KV{x lo hi:Int}(h0:lo<=x)(h1:x<=hi)(w:V6):Va 55 #[Vi x,Vi lo,Vi hi] w (Rt w (.bool true)):=by
 have h:=Yy x lo hi w;rw[Xs h0 h1] at h;exact h
structure Jmp (C:CR) (f:Ft):Prop where
 a:0<=f.1/\f.1<=300
 k:0<=f.2.1/\f.2.1<=4
 x:0<=f.2.2.1/\f.2.2.1<=2
 u:0<=f.2.2.2.1
 ch:f.2.1≠4->f.2.2.2.1<=2
 su:f.2.1=4->f.2.2.1<=1/\f.2.2.2.1<C.a f.2.2.1.toNat 4
theorem Jb8(C:CR)(hi:i<2):(crL C)[i*15+4]?=some (Vi (C.a i 4)):=by
 rcases Qtw i with rfl|rfl<;>rfl
def Sts(u:V6)(a:V8)(l:List Stp):Prop:=l=[]\/∃b off,a=some (Ad b off)/\∀k,k<l.length->u.rangeAt b (off+k*8) (A6 (BI l k))
theorem Sts.lq{u':V6}{a:V8}(h:Sts u a l)(y:Bw u u'):Sts u' a l:=by
 rcases h with h|⟨b,off,h,hc⟩
 . exact .inl h
 . exact .inr ⟨b,off,h,fun k hk j v m=>cell_later y (hc k hk j v m)⟩
theorem Sts.at{a:V8}(h:Sts u a l)(hk:k<l.length):∃b off,a=some (Ad b off)/\u.rangeAt b (off+k*8) (A6 (BI l k)):=by
 rcases h with h|⟨b,off,h,hc⟩
 . rw[h] at hk;simp at hk
 . exact⟨b,off,h,hc k hk⟩
theorem Oth.sts{a:V8}(h:Oth w u B)(hn:l≠[]->∀g o,a=some (Ad g o)->g≠B)(k:Sts w a l):Sts u a l:=by
 rcases k with k|⟨g,o,e,hc⟩
 . exact .inl k
 . exact .inr ⟨g,o,e,fun k hk j v y=>h.cell (hn (fun z=>by rw[z] at hk;simp at hk) g o e) (hc k hk j v y)⟩
theorem Jp0{a:V8}(k:Sts w a l):l≠[]->∀g o,a=some (Ad g o)->g<w.heap.size:=by
 intro hl g o e
 rcases k with k|⟨y,j,h,hc⟩
 . exact absurd k hl
 . rw[h] at e;cases e;exact World.block_lt_of_cell? w _ (hc 0 (List.length_pos_iff.2 hl) 0 _ rfl)
def ftB(C:CR)(f:Ft):Bool:=A1 f.1 0 300&&(A1 f.2.1 0 4&&(A1 f.2.2.1 0 2&&(decide (0<=f.2.2.2.1)&&if f.2.1=4 then(decide (f.2.2.1<2)&&decide (f.2.2.2.1<C.a f.2.2.1.toNat 4)) else decide (f.2.2.2.1<3))))
def ftE(C:CR)(f:Ft):Int:=if ftB C f then 0 else 1
theorem Jp1(h:ftB C f=true):Jmp C f:=by
 simp only[ftB,Bool.and_eq_true,decide_eq_true_eq] at h;obtain⟨h1,h2,h3,h4,h5⟩:=h;refine⟨Zw h1,Zw h2,Zw h3,h4,fun e=>?_,fun e=>?_⟩
 . rw[if_neg e] at h5;have:=of_decide_eq_true h5
   omega
 . rw[if_pos e] at h5;simp only[Bool.and_eq_true,decide_eq_true_eq] at h5;exact⟨by omega,h5.2⟩
theorem Jp2(h:Jmp C f):ftB C f=true:=by
 simp only[ftB,Bool.and_eq_true,decide_eq_true_eq];refine⟨Xe h.a,Xe h.k,Xe h.x,h.u,?_⟩
 split
 . rename_i e
   simp only[Bool.and_eq_true,decide_eq_true_eq];exact⟨by have:=(h.su e).1;omega,(h.su e).2⟩
 . rename_i e
   have:=h.ch e;simp only[decide_eq_true_eq]
   omega
theorem Jr4(hi:i<2):(i:Int).tmod 2=i:=by
 rcases Qtw i with rfl|rfl<;>rfl
theorem EG(C:CR)(f:Ft)(w:V6):Va 20 #[.agg (crL C).toArray,.agg (ftL f).toArray] w (Rt w (Vi (ftE C f))):=by
 obtain⟨H,Z,e,m,Q⟩:=f;have ha:=Zy H 0 300;have T:=Zy Z 0 4;have hc:=Zy e 0 2;have X:ftE C (H,Z,e,m,Q)=if A1 H 0 300&&(A1 Z 0 4&&(A1 e 0 2&&(decide (0<=m)&&if Z=4 then(decide (e<2)&&decide (m<C.a e.toNat 4)) else decide (m<3)))) then 0 else 1:=rfl;have hx:=fun h=>Zw (x:=e) (lo:=0) (hi:=2) h
 change Va 20 #[.agg (crL C).toArray,.agg #[Vi H,Vi Z,Vi e,Vi m,Vi Q]] w _
 have D:=Za ((Blk.new w 41 (crL C)).lq (Zb (w.alloc (.cells (crL C).toArray 41)) (.cells #[Vi H,Vi Z,Vi e,Vi m,Vi Q] 64)));have M:Hd (Blk 64 ((w.alloc (.cells (crL C).toArray 41)).alloc (.cells #[Vi H,Vi Z,Vi e,Vi m,Vi Q] 64)) (w.heap.size+1) [Vi H,Vi Z,Vi e,Vi m,Vi Q]):=Za (by have h:=Blk.new (w.alloc (.cells (crL C).toArray 41)) 64 [Vi H,Vi Z,Vi e,Vi m,Vi Q];rw[World.size_alloc] at h;exact h);have R:=Za (Zc (Zb w (.cells (crL C).toArray 41)) (Zb (w.alloc (.cells (crL C).toArray 41)) (.cells #[Vi H,Vi Z,Vi e,Vi m,Vi Q] 64)))
 go_enter func20,ntmps20
 go_upto_region 1 with fail;generalize (w.alloc (.cells (crL C).toArray 41)).alloc (.cells #[Vi H,Vi Z,Vi e,Vi m,Vi Q] 64)=v0 at *;have c0:=(M.o.cell (j:=0) rfl).1;have c1:=(M.o.cell (j:=1) rfl).1;have c2:=(M.o.cell (j:=2) rfl).1;have c3:=(M.o.cell (j:=3) rfl).1;generalize A1 H 0 300=b1 at *;generalize A1 Z 0 4=b2 at *;generalize J:A1 e 0 2=b3 at*
 cases b1
 . have Y:=Za X;clear X hx J
   go_wp2_with (first
    |(go_at_call_of 22 (300:Int);refine Sm (ha _) ?_)
    |(go_at_call_of 22 (4:Int);refine Sm (T _) ?_)
    |(go_at_call_of 22 (2:Int);refine Sm (hc _) ?_)
    |(go_at_call 4;refine Sm (Yr 1 _) ?_))
   go_ret;exact⟨by rw[Y.o];rfl,R.o⟩
 cases b2
 . have Y:=Za X;clear X hx J
   go_wp2_with (first
    |(go_at_call_of 22 (300:Int);refine Sm (ha _) ?_)
    |(go_at_call_of 22 (4:Int);refine Sm (T _) ?_)
    |(go_at_call_of 22 (2:Int);refine Sm (hc _) ?_)
    |(go_at_call 4;refine Sm (Yr 1 _) ?_))
   go_ret;exact⟨by rw[Y.o];rfl,R.o⟩
 cases b3
 . have Y:=Za X;clear X hx J
   go_wp2_with (first
    |(go_at_call_of 22 (300:Int);refine Sm (ha _) ?_)
    |(go_at_call_of 22 (4:Int);refine Sm (T _) ?_)
    |(go_at_call_of 22 (2:Int);refine Sm (hc _) ?_)
    |(go_at_call 4;refine Sm (Yr 1 _) ?_))
   go_ret;exact⟨by rw[Y.o];rfl,R.o⟩
 by_cases hu:0<=m
 . by_cases hk:Z=4
   . obtain⟨I,L⟩:=hx rfl
     by_cases h2:e=2
     . subst h2 hk;have Y:Hd (ftE C (H,4,2,m,Q)=1):=Za (by rw[X];simp);clear X hx J
       go_upto_region 3 with(first
        |(go_at_call_of 22 (300:Int);refine Sm (ha _) ?_)
        |(go_at_call_of 22 (4:Int);refine Sm (T _) ?_)
        |(go_at_call_of 22 (2:Int);refine Sm (hc _) ?_)
        |(go_at_call 4;refine Sm (Yr 1 _) ?_))
       refine Cs [30,31,32,33,34,35,36,37,38,39,40,41,42,43,44,5] ?_;refine Cp 0 30 [] ?_;refine Cq (V5 c2) 1 31 [0] ?_;refine Cp 2 32 [1] ?_;refine Cp 3 33 [2] ?_;refine Cz 4 34 [3] ?_;refine Cz 5 35 [3] ?_;refine Cz 6 36 [3] ?_;refine Cz 7 37 [3] ?_;refine Cz 8 38 [3] ?_;refine Cz 9 39 [3] ?_;refine Cz 10 40 [3] ?_;refine Cz 11 41 [3] ?_;refine Cz 12 42 [3] ?_;refine Cz 13 43 [3] ?_;refine Cp 14 44 [3,13] ?_;refine Cp 15 5 [14] ?_;refine Ce (fun y N G P=>?_);have K:=Za G;clear G P;go_simp;have G:=K.o;clear K;generalize N=v2 at G|-;refine Ek ?_
       go_wp2_with (go_at_call 4;refine Sm (Yr 1 _) ?_);go_ret;exact⟨by rw[Y.o];rfl,Zc R.o G⟩
     . obtain⟨i,rfl⟩:∃i:Nat,e=i:=⟨e.toNat,by omega⟩;subst hk
       have hi:i<2:=by omega
       have O:(0:Int)<=(i:Int):=by omega
       have E:(i:Int)<2:=by omega
       have U:=Jr4 hi;have F:=(D.o.cell (Jb8 C hi)).1;have Y:Hd (ftE C (H,4,(i:Int),m,Q)=if decide (m<C.a i 4) then 0 else 1):=Za (by rw[X];simp[hu,E]);clear X hx J h2
       go_upto_region 3 with(first
        |(go_at_call_of 22 (300:Int);refine Sm (ha _) ?_)
        |(go_at_call_of 22 (4:Int);refine Sm (T _) ?_)
        |(go_at_call_of 22 (2:Int);refine Sm (hc _) ?_)
        |(go_at_call 4;refine Sm (Yr 1 _) ?_))
       refine Cs [30,31,32,33,34,35,36,37,38,39,40,41,42,43,44,5] ?_;refine Cp 0 30 [] ?_;refine Cq (V5 c2) 1 31 [0] ?_;refine Cp 2 32 [1] ?_;refine Cp 3 33 [2] ?_;refine Cp 4 34 [3] ?_;refine Cq (V5 c3) 5 35 [4,3] ?_;refine Cp 6 36 [3] ?_;refine Cq (V5 c2) 7 37 [6,3] ?_;refine Cp 8 38 [7,3] ?_;refine Cp 9 39 [3] ?_;refine Cp 10 40 [9,8,3] ?_;refine Cp 11 41 [10,3] ?_;refine Cq (V5 F) 12 42 [11,3] ?_;refine Cp 13 43 [5,12,3] ?_;refine Cp 14 44 [3,13] ?_;refine Cp 15 5 [14] ?_;refine Ce (fun y N G P=>?_);have K:=Za G;clear G P;go_simp;have G:=K.o;clear K;generalize N=v2 at G|-;refine Ek ?_
       by_cases hlt:m<C.a i 4
       . go_wp2_with (go_at_call 4;refine Sm (X0 1 _) ?_);go_ret;exact⟨by rw[Y.o,if_pos (by simpa using hlt)];rfl,Zc R.o G⟩
       . go_wp2_with (go_at_call 4;refine Sm (Yr 1 _) ?_);go_ret;exact⟨by rw[Y.o,if_neg (by simpa using hlt)];rfl,Zc R.o G⟩
   . have Y:Hd (ftE C (H,Z,e,m,Q)=if decide (m<3) then 0 else 1):=Za (by rw[X];simp[hu,hk]);clear X hx J
     by_cases hlt:m<3
     . go_wp2_with (first
        |(go_at_call_of 22 (300:Int);refine Sm (ha _) ?_)
        |(go_at_call_of 22 (4:Int);refine Sm (T _) ?_)
        |(go_at_call_of 22 (2:Int);refine Sm (hc _) ?_)
        |(go_at_call 4;refine Sm (X0 1 _) ?_))
       go_ret;exact⟨by rw[Y.o,if_pos (by simpa using hlt)];rfl,R.o⟩
     . have hd:decide (m<3)=false:=by simpa using hlt
       go_wp2_with (first
        |(go_at_call_of 22 (300:Int);refine Sm (ha _) ?_)
        |(go_at_call_of 22 (4:Int);refine Sm (T _) ?_)
        |(go_at_call_of 22 (2:Int);refine Sm (hc _) ?_)
        |(go_at_call 4;refine Sm (Yr 1 _) ?_))
       go_ret;exact⟨by rw[Y.o,if_neg (by simpa using hlt)];rfl,R.o⟩
 . have Y:Hd (ftE C (H,Z,e,m,Q)=1):=Za (by rw[X];simp[hu]);clear X hx J
   go_wp2_with (first
    |(go_at_call_of 22 (300:Int);refine Sm (ha _) ?_)
    |(go_at_call_of 22 (4:Int);refine Sm (T _) ?_)
    |(go_at_call_of 22 (2:Int);refine Sm (hc _) ?_)
    |(go_at_call 4;refine Sm (Yr 1 _) ?_))
   go_ret;exact⟨by rw[Y.o];rfl,R.o⟩
def unJ(C:CR)(y h:Int):Int:=if y=4 then(if h=2 then 0 else mxL (C.a h.toNat 4) 0) else 3
theorem Jem(C:CR)(e m y H Z:Int)(hx:0<=y/\y<=2)(w:V6):Va 104 #[.agg (crL C).toArray,.agg #[Vi e,Vi m,Vi y,Vi H,Vi Z]] w (Rt w (Vi (unJ C m y))):=by
 have G:=Za ((Blk.new w 41 (crL C)).lq (Zb (w.alloc (.cells (crL C).toArray 41)) (.cells #[Vi e,Vi m,Vi y,Vi H,Vi Z] 64)));have Q:Hd (Blk 64 ((w.alloc (.cells (crL C).toArray 41)).alloc (.cells #[Vi e,Vi m,Vi y,Vi H,Vi Z] 64)) (w.heap.size+1) [Vi e,Vi m,Vi y,Vi H,Vi Z]):=Za (by have h:=Blk.new (w.alloc (.cells (crL C).toArray 41)) 64 [Vi e,Vi m,Vi y,Vi H,Vi Z];rw[World.size_alloc] at h;exact h);have X:=Za (Zc (Zb w (.cells (crL C).toArray 41)) (Zb (w.alloc (.cells (crL C).toArray 41)) (.cells #[Vi e,Vi m,Vi y,Vi H,Vi Z] 64)))
 go_enter func104,ntmps104
 go_upto_region 1 with fail;generalize (w.alloc (.cells (crL C).toArray 41)).alloc (.cells #[Vi e,Vi m,Vi y,Vi H,Vi Z] 64)=v0 at *;have T:=(Q.o.cell (j:=1) rfl).1;have J:=(Q.o.cell (j:=2) rfl).1
 by_cases hk:m=4
 . by_cases h2:y=2
   . have Y:Hd (unJ C m y=0):=Za (by unfold unJ;rw[if_pos hk,if_pos h2]);subst hk h2;clear hx;go_wp2_with fail;go_ret;exact⟨by rw[Y.o];rfl,X.o⟩
   . have Y:Hd (unJ C m y=mxL (C.a y.toNat 4) 0):=Za (by unfold unJ;rw[if_pos hk,if_neg h2]);obtain⟨i,rfl⟩:∃i:Nat,y=i:=⟨y.toNat,by omega⟩;rw[Int.toNat_natCast] at Y
     have K:(0:Int)<=(i:Int):=by omega
     have M:(i:Int)<2:=by omega
     have N:=(G.o.cell (Jb8 C (show i<2 by omega))).1;have ha:=fun R t=>Mi R t (C.a i 4) 0;subst hk;clear hx;go_wp2_with fail;go_ret;exact⟨by rw[Y.o];rfl,X.o⟩
 . have Y:Hd (unJ C m y=3):=Za (if_neg hk);clear hx;go_wp2_with fail;go_ret;exact⟨by rw[Y.o];rfl,X.o⟩
theorem Jp3(C:CR)(w m y j H:Int):ftE C (w,m,y,j,H)=if A1 w 0 300&&(A1 m 0 4&&(A1 y 0 2&&A1 j 0 (unJ C m y-1))) then 0 else 1:=by
 have e:∀b:Bool,(b=true->0<=y/\y<=2)->(b&&(decide (0<=j)&&if m=4 then(decide (y<2)&&decide (j<C.a y.toNat 4)) else decide (j<3)))=(b&&A1 j 0 (unJ C m y-1)):=fun b Z=>by
  cases b
  . rfl
  . have:=Z rfl
    unfold A1 unJ mxL
    rw[Bool.true_and,Bool.true_and]
    split
    . split
      . rename_i e2
        rw[decide_eq_false (show ¬y<2 by omega),Bool.false_and,Bool.and_false]
        by_cases h0:0<=j
        . rw[decide_eq_false (show ¬j<=0-1 by omega),Bool.and_false]
        . rw[decide_eq_false h0,Bool.false_and]
      . rw[decide_eq_true (show y<2 by omega),Bool.true_and]
        by_cases h0:0<=j
        . rw[decide_eq_true h0,Bool.true_and,Bool.true_and];apply decide_eq_decide.2
          split<;>omega
        . rw[decide_eq_false h0,Bool.false_and,Bool.false_and]
    . congr 1
      apply decide_eq_decide.2
      omega
 unfold ftE ftB
 dsimp only
 rw[e _ (fun h=>Zw h)]
theorem KW(C:CR)(f:Ft)(h4:∀i,i<2->C.a i 4<=100000000000)(w:V6):Va 57 #[.agg (crL C).toArray,.agg (ftL f).toArray] w (Rt w (A8 (ftE C f))):=by
 obtain⟨X,Z,e,Q,G⟩:=f;have K:=Jp3 C X Z e Q G;have M:=Yy X 0 300;have N:=Yy Z 0 4;have P:=Yy e 0 2;have D:=Yy Q 0 (unJ C Z e-1);have ha:=fun h=>Jem C X Z e Q G h
 have hc:(0<=e/\e<=2)->0<=unJ C Z e/\unJ C Z e<=100000000000:=fun h=>by
  unfold unJ mxL
  split
  . split
    . omega
    . have:=h4 e.toNat (by omega)
      split<;>omega
  . omega
 have hx:=fun h=>Zw (x:=e) (lo:=0) (hi:=2) h
 change Va 57 #[.agg (crL C).toArray,.agg #[Vi X,Vi Z,Vi e,Vi Q,Vi G]] w _
 have R:=Za ((Blk.new w 41 (crL C)).lq (Zb (w.alloc (.cells (crL C).toArray 41)) (.cells #[Vi X,Vi Z,Vi e,Vi Q,Vi G] 64)));have H:Hd (Blk 64 ((w.alloc (.cells (crL C).toArray 41)).alloc (.cells #[Vi X,Vi Z,Vi e,Vi Q,Vi G] 64)) (w.heap.size+1) [Vi X,Vi Z,Vi e,Vi Q,Vi G]):=Za (by have h:=Blk.new (w.alloc (.cells (crL C).toArray 41)) 64 [Vi X,Vi Z,Vi e,Vi Q,Vi G];rw[World.size_alloc] at h;exact h);have Y:=Za (Zc (Zb w (.cells (crL C).toArray 41)) (Zb (w.alloc (.cells (crL C).toArray 41)) (.cells #[Vi X,Vi Z,Vi e,Vi Q,Vi G] 64)));generalize A1 X 0 300=b1 at *;generalize A1 Z 0 4=b2 at *;generalize A1 e 0 2=b3 at *;generalize A1 Q 0 (unJ C Z e-1)=b4 at *;have E:=Za K;clear K h4
 go_enter func57,ntmps57
 go_upto_region 1 with fail;generalize (w.alloc (.cells (crL C).toArray 41)).alloc (.cells #[Vi X,Vi Z,Vi e,Vi Q,Vi G] 64)=v0 at *;have W:=(H.o.cell (j:=0) rfl).1;have F:=(H.o.cell (j:=1) rfl).1;have J:=(H.o.cell (j:=2) rfl).1
 rcases(show b1=false\/(b1=true/\b2=false)\/(b1=true/\b2=true/\b3=false)\/(b1=true/\b2=true/\b3=true) by cases b1<;>cases b2<;>cases b3<;>simp) with rfl|⟨rfl,rfl⟩|⟨rfl,rfl,rfl⟩|⟨rfl,rfl,rfl⟩
 rotate_left 3
 . have hx:=hx rfl;have ha:=ha hx;obtain⟨u0,I⟩:=hc hx
   have hk:IntKind.i64.wrap (unJ C Z e-1)=unJ C Z e-1:=by rw[Xj]<;>omega
   generalize unJ C Z e=un at *;clear hx hc
   go_upto_region 3 with(first
    |(go_at_call_of 55 (300:Int);refine Sb (M _) fun v1 m=>?_;replace H:=Za (H.o.lq m);replace R:=Za (R.o.lq m);replace Y:=Za (Zc Y.o m);have F:=(H.o.cell (j:=1) rfl).1;have J:=(H.o.cell (j:=2) rfl).1;clear m)
    |(go_at_call_of 55 (4:Int);refine Sb (N _) fun v1 m=>?_;replace H:=Za (H.o.lq m);replace R:=Za (R.o.lq m);replace Y:=Za (Zc Y.o m);have J:=(H.o.cell (j:=2) rfl).1;clear m)
    |(go_at_call_of 55 (2:Int);refine Sb (P _) fun v1 m=>?_;replace H:=Za (H.o.lq m);replace R:=Za (R.o.lq m);replace Y:=Za (Zc Y.o m);clear m))
   rename World=>v3;have O:=(H.o.cell (j:=3) rfl).1;have U:=Za R.o.range;have A:=Za H.o.range;refine Cs [22,23,24,25,26,27,28,29] ?_;refine Cp 0 22 [] ?_;refine Cq (V5 O) 1 23 [0] ?_;refine Cl (x:=.tmp 2) 2 24 [] (fun y w _ u hd=>⟨Zf U.o hd,rfl⟩) underlying41 Zr ?_;refine Cl (x:=.tmp 3) 3 25 [] (fun y w _ u hd=>⟨Zf A.o hd,rfl⟩) underlying64 W7 ?_;refine Cc 4 26 [2,3] (fun y w h _=>ha _) ?_;refine Cp 5 27 [4] ?_;refine Cc 6 28 [1,5] (fun y w h _=>D _) ?_;refine Cp 7 29 [6] ?_;refine Ce (fun y I T B=>?_);have L:=Za T;clear T B;go_simp;have T:=L.o;clear L;generalize I=v2 at T|-;refine Ek ?_
   cases b4
   all_goals
    go_wp2_with fail;go_ret;exact⟨by rw[E.o];rfl,Zc Y.o T⟩
 all_goals
  clear hx hc ha D
  go_wp2_with (first
   |(go_at_call_of 55 (300:Int);refine Sb (M _) fun v1 m=>?_;replace H:=Za (H.o.lq m);replace Y:=Za (Zc Y.o m);have F:=(H.o.cell (j:=1) rfl).1;have J:=(H.o.cell (j:=2) rfl).1;clear m)
   |(go_at_call_of 55 (4:Int);refine Sb (N _) fun v1 m=>?_;replace H:=Za (H.o.lq m);replace Y:=Za (Zc Y.o m);have J:=(H.o.cell (j:=2) rfl).1;clear m)
   |(go_at_call_of 55 (2:Int);refine Sb (P _) fun v1 m=>?_;replace Y:=Za (Zc Y.o m);clear m))
  go_ret;exact⟨by rw[E.o];rfl,Y.o⟩
def EH(C:CR)(s:Stp):Nat->Bool
 |0=>A1 s.v 0 262143
 |i+1=>EH C s i&&(A1 (s.k i) (-100) 100&&(A1 (s.p i) (-C.a i 3) (C.a i 3)&&A1 (s.z i) 0 8589934591))
def AW(C:CR)(s:Stp):Int:=if EH C s 2 then 0 else 1
theorem Jmq(h:EH C s 2=true):SA C s:=by
 simp only[EH,Bool.and_eq_true] at h;obtain⟨⟨h0,h1,h2,h3⟩,y,j,m⟩:=h
 refine⟨fun i hi=>?_,fun i hi=>?_,fun i hi=>?_,Zw h0⟩<;>rcases Qtw i with rfl|rfl
 . exact Zw h1
 . exact Zw y
 . exact Zw h2
 . exact Zw j
 . exact Zw h3
 . exact Zw m
theorem Jmr(h:SA C s):EH C s 2=true:=by
 simp only[EH,Bool.and_eq_true];exact⟨⟨Xe h.v,Xe (h.k 0 (by omega)),Xe (h.p 0 (by omega)),Xe (h.z 0 (by omega))⟩,Xe (h.k 1 (by omega)),Xe (h.p 1 (by omega)),Xe (h.z 1 (by omega))⟩
theorem Jp4(C:CR)(hi:i<2):((crL C).drop (i*15)).take 15=axL C i:=by
 rcases Qtw i with rfl|rfl<;>rfl
theorem GU(C:CR)(s:Stp)(h3:∀i,i<2->-100000000000<=C.a i 3/\C.a i 3<=100000000000)(w:V6):Va 23 #[.agg (crL C).toArray,.agg (A6 s).toArray] w (Rt w (Vi (AW C s))):=by
 have P:=Zy s.v 0 262143;have O:=Za (fun i:Nat=>Zy (s.k i) (-100) 100);have U:=Za (fun i:Nat=>Zy (s.p i) (-C.a i 3) (C.a i 3));have A:=Za (fun i:Nat=>Zy (s.z i) 0 8589934591);have D:Hd (AW C s=if EH C s 2 then 0 else 1):=Za rfl;have B:=Za h3;clear h3;have Y:=Za ((Blk.new w 41 (crL C)).lq (Zb (w.alloc (.cells (crL C).toArray 41)) (.cells #[Vi (s.k 0),Vi (s.k 1),Vi (s.p 0),Vi (s.p 1),Vi (s.z 0),Vi (s.z 1),Vi s.v,.bool s.g] 70)));have H:Hd (Blk 70 ((w.alloc (.cells (crL C).toArray 41)).alloc (.cells #[Vi (s.k 0),Vi (s.k 1),Vi (s.p 0),Vi (s.p 1),Vi (s.z 0),Vi (s.z 1),Vi s.v,.bool s.g] 70)) (w.heap.size+1) (A6 s)):=Za (by have h:=Blk.new (w.alloc (.cells (crL C).toArray 41)) 70 (A6 s);rw[World.size_alloc] at h;exact h);have E:=Za (Zc (Zb w (.cells (crL C).toArray 41)) (Zb (w.alloc (.cells (crL C).toArray 41)) (.cells #[Vi (s.k 0),Vi (s.k 1),Vi (s.p 0),Vi (s.p 1),Vi (s.z 0),Vi (s.z 1),Vi s.v,.bool s.g] 70)));have F:(A6 s).toArray=#[Vi (s.k 0),Vi (s.k 1),Vi (s.p 0),Vi (s.p 1),Vi (s.z 0),Vi (s.z 1),Vi s.v,.bool s.g]:=rfl;rw[F];clear F
 go_enter func23,ntmps23
 go_upto_region 1 with fail;generalize (w.alloc (.cells (crL C).toArray 41)).alloc (.cells #[Vi (s.k 0),Vi (s.k 1),Vi (s.p 0),Vi (s.p 1),Vi (s.z 0),Vi (s.z 1),Vi s.v,.bool s.g] 70)=v0 at *;generalize w.heap.size+1=QS at H|-;generalize W:w.heap.size=QK at Y|-;clear W;have ev:=(H.o.cell (j:=6) rfl).1
 go_upto_region 3 with(go_at_call 22;refine Sm (P _) ?_);clear ev P
 go_loopw [5,6] (fun fi ix wr=>∃i:Nat,i<=2/\ix=Vi i/\fi=.bool (EH C s i)/\Blk 70 wr QS (A6 s)/\Blk 41 wr QK (crL C)/\Bw w wr) (fun _ ix _=>2-(intOf ix).toNat)
 case atStart=>exact⟨0,by omega,rfl,rfl,H.o,Y.o,E.o⟩
 case round=>
  clear H Y E;obtain⟨i,hk,rfl,rfl,Z,hc,hd⟩:=hrel
  by_cases hi:i<2
  . have i0:(0:Int)<=(i:Int):=by omega
    have i1:(i:Int)<2:=by omega
    have G:=O.o i;have ha:=U.o i;have R:=A.o i;obtain⟨p0,p1⟩:=B.o i hi
    have hl:IntKind.i64.wrap (-C.a i 3)=-C.a i 3:=by rw[Xj]<;>omega
    have T:Hd (EH C s (i+1)=(EH C s i&&(A1 (s.k i) (-100) 100&&(A1 (s.p i) (-C.a i 3) (C.a i 3)&&A1 (s.z i) 0 8589934591)))):=Za rfl;have M:=Za (hc.sub (i*15) 15);rw[Jp4 C hi] at M;have J:=Zb wr (.cells (axL C i).toArray 38);have H:=Za (Z.lq J);have Y:=Za (hc.lq J);have X:=Za (Zc hd J);have I:Hd (Blk 38 (wr.alloc (.cells (axL C i).toArray 38)) wr.heap.size (axL C i)):=Za (Blk.new wr _ _);clear Z hd hc J;generalize EH C s i=b0 at *;generalize A1 (s.k i) (-100) 100=b1 at *;generalize A1 (s.p i) (-C.a i 3) (C.a i 3)=b2 at *;generalize A1 (s.z i) 0 8589934591=b3 at*
    go_upto_region 6 with(first
     |(refine Lm 38 (.tmp 17) rfl QK (i*15) (axL C i) M.o underlying38 Zq ?_)
     |(refine Sq 38 _ _ rfl ?_;refine Wx (c':=(axL C i).toArray) (.tmp 7) (.tmp 18) rfl rfl rfl rfl rfl rfl (Zm _ rfl) ?_))
    clear M;generalize wr.alloc (.cells (axL C i).toArray 38)=v1 at *;generalize wr.heap.size=QA at I|-;have N:=(H.o.cell (Jie s hi)).1;have L:=(H.o.cell (Jif s hi)).1;have xz:=(H.o.cell (Jig s hi)).1;have K:=(I.o.cell (j:=3) rfl).1
    cases b0
    . clear G ha R;refine Cs [19,20,21,22,23,24,25,26,27,28,29,30,31,32,33,34,35,36,37,38,39,40,41,42,43,44,45] ?_;refine Cp 0 19 [] ?_;refine Cp 1 20 [0] ?_;refine Cz 2 21 [1] ?_;refine Cz 3 22 [1] ?_;refine Cz 4 23 [1] ?_;refine Cz 5 24 [1] ?_;refine Cz 6 25 [1] ?_;refine Cp 7 26 [1,6] ?_;refine Cp 8 27 [7] ?_;refine Cz 9 28 [8] ?_;refine Cz 10 29 [8] ?_;refine Cz 11 30 [8] ?_;refine Cz 12 31 [8] ?_;refine Cz 13 32 [8] ?_;refine Cz 14 33 [8] ?_;refine Cz 15 34 [8] ?_;refine Cz 16 35 [8] ?_;refine Cz 17 36 [8] ?_;refine Cz 18 37 [8] ?_;refine Cp 19 38 [8,18] ?_;refine Cp 20 39 [19] ?_;refine Cz 21 40 [20] ?_;refine Cz 22 41 [20] ?_;refine Cz 23 42 [20] ?_;refine Cz 24 43 [20] ?_;refine Cz 25 44 [20] ?_;refine Cp 26 45 [20,25] ?_;refine Cn 1 28 [27] (fun y Q m Z=>?_);have e:=Za m;clear m Z;refine Tq 27 e.o ?_;simp only[Act.put,Ly];refine Dn ?_;go_simp;have m:=e.o;clear e;generalize Q=v2 at m|-;refine Ek ?_;go_wp2_with fail;go_roundw
      case rel=>exact⟨i+1,by omega,by go_num,by rw[T.o];rfl,H.o.lq m,Y.o.lq m,Zc X.o m⟩
      case measure=>simp[intOf];omega
    cases b1
    . clear ha R;refine Cs [19,20,21,22,23,24,25,26,27,28,29,30,31,32,33,34,35,36,37,38,39,40,41,42,43,44,45] ?_;refine Cp 0 19 [] ?_;refine Cp 1 20 [0] ?_;refine Cp 2 21 [1] ?_;refine Cp 3 22 [1] ?_;refine Cp 4 23 [3,2,1] ?_;refine Cq (V5 N) 5 24 [4,1] ?_;refine Cc 6 25 [5,1] (fun y w h _=>Yc (G _)) ?_;refine Cp 7 26 [1,6] ?_;refine Cp 8 27 [7] ?_;refine Cz 9 28 [8] ?_;refine Cz 10 29 [8] ?_;refine Cz 11 30 [8] ?_;refine Cz 12 31 [8] ?_;refine Cz 13 32 [8] ?_;refine Cz 14 33 [8] ?_;refine Cz 15 34 [8] ?_;refine Cz 16 35 [8] ?_;refine Cz 17 36 [8] ?_;refine Cz 18 37 [8] ?_;refine Cp 19 38 [8,18] ?_;refine Cp 20 39 [19] ?_;refine Cz 21 40 [20] ?_;refine Cz 22 41 [20] ?_;refine Cz 23 42 [20] ?_;refine Cz 24 43 [20] ?_;refine Cz 25 44 [20] ?_;refine Cp 26 45 [20,25] ?_;refine Cn 1 28 [27] (fun y Q m Z=>?_);have e:=Za m;clear m Z;refine Tq 27 e.o ?_;simp only[Act.put,Ly];refine Dn ?_;go_simp;have m:=e.o;clear e;generalize Q=v2 at m|-;refine Ek ?_;go_wp2_with fail;go_roundw
      case rel=>exact⟨i+1,by omega,by go_num,by rw[T.o];rfl,H.o.lq m,Y.o.lq m,Zc X.o m⟩
      case measure=>simp[intOf];omega
    cases b2
    . clear R;refine Cs [19,20,21,22,23,24,25,26,27,28,29,30,31,32,33,34,35,36,37,38,39,40,41,42,43,44,45] ?_;refine Cp 0 19 [] ?_;refine Cp 1 20 [0] ?_;refine Cp 2 21 [1] ?_;refine Cp 3 22 [1] ?_;refine Cp 4 23 [3,2,1] ?_;refine Cq (V5 N) 5 24 [4,1] ?_;refine Cc 6 25 [5,1] (fun y w h _=>Yc (G _)) ?_;refine Cp 7 26 [1,6] ?_;refine Cp 8 27 [7] ?_;refine Cp 9 28 [8] ?_;refine Cp 10 29 [8] ?_;refine Cp 11 30 [10,9,8] ?_;refine Cq (V5 L) 12 31 [11,8] ?_;refine Cp 13 32 [8] ?_;refine Cq (V5 K) 14 33 [13,8] ?_;refine Cp 15 34 [14,8] ?_;refine Cp 16 35 [8] ?_;refine Cq (V5 K) 17 36 [16,8] ?_;refine Cc 18 37 [12,15,17,8] (fun y w h _=>Yc (ha _)) ?_ (hw:=fun y w hF=>Zg (congrArg some hF.2.2.2.1));refine Cp 19 38 [8,18] ?_;refine Cp 20 39 [19] ?_;refine Cz 21 40 [20] ?_;refine Cz 22 41 [20] ?_;refine Cz 23 42 [20] ?_;refine Cz 24 43 [20] ?_;refine Cz 25 44 [20] ?_;refine Cp 26 45 [20,25] ?_;refine Cn 1 28 [27] (fun y Q m Z=>?_);have e:=Za m;clear m Z;refine Tq 27 e.o ?_;simp only[Act.put,Ly];refine Dn ?_;go_simp;have m:=e.o;clear e;generalize Q=v2 at m|-;refine Ek ?_;go_wp2_with fail;go_roundw
      case rel=>exact⟨i+1,by omega,by go_num,by rw[T.o];rfl,H.o.lq m,Y.o.lq m,Zc X.o m⟩
      case measure=>simp[intOf];omega
    refine Cs [19,20,21,22,23,24,25,26,27,28,29,30,31,32,33,34,35,36,37,38,39,40,41,42,43,44,45] ?_;refine Cp 0 19 [] ?_;refine Cp 1 20 [0] ?_;refine Cp 2 21 [1] ?_;refine Cp 3 22 [1] ?_;refine Cp 4 23 [3,2,1] ?_;refine Cq (V5 N) 5 24 [4,1] ?_;refine Cc 6 25 [5,1] (fun y w h _=>Yc (G _)) ?_;refine Cp 7 26 [1,6] ?_;refine Cp 8 27 [7] ?_;refine Cp 9 28 [8] ?_;refine Cp 10 29 [8] ?_;refine Cp 11 30 [10,9,8] ?_;refine Cq (V5 L) 12 31 [11,8] ?_;refine Cp 13 32 [8] ?_;refine Cq (V5 K) 14 33 [13,8] ?_;refine Cp 15 34 [14,8] ?_;refine Cp 16 35 [8] ?_;refine Cq (V5 K) 17 36 [16,8] ?_;refine Cc 18 37 [12,15,17,8] (fun y w h _=>Yc (ha _)) ?_ (hw:=fun y w hF=>Zg (congrArg some hF.2.2.2.1));refine Cp 19 38 [8,18] ?_;refine Cp 20 39 [19] ?_;refine Cp 21 40 [20] ?_;refine Cp 22 41 [20] ?_;refine Cp 23 42 [22,21,20] ?_;refine Cq (V5 xz) 24 43 [23,20] ?_;refine Cc 25 44 [24,20] (fun y w h _=>Yc (R _)) ?_;refine Cp 26 45 [20,25] ?_;refine Cn 1 28 [27] (fun y Q m Z=>?_);have e:=Za m;clear m Z;refine Tq 27 e.o ?_;simp only[Act.put,Ly];refine Dn ?_;go_simp;have m:=e.o;clear e;generalize Q=v2 at m|-;refine Ek ?_;go_wp2_with fail;go_roundw
    case rel=>exact⟨i+1,by omega,by go_num,by rw[T.o];rfl,H.o.lq m,Y.o.lq m,Zc X.o m⟩
    case measure=>simp[intOf];omega
  . obtain rfl:i=2:=by omega
    have X:=Za hd;clear Z hd hc;generalize EH C s 2=b at*
    cases b
    . go_wp2_with (go_at_call 4;refine Sm (Yr 1 _) ?_);go_ret;exact⟨by rw[D.o];rfl,X.o⟩
    . go_wp2_with (go_at_call 4;refine Sm (X0 1 _) ?_);go_ret;exact⟨by rw[D.o];rfl,X.o⟩
end Go.Proofs.YtnepnnkdgejheaaGreatDoor
