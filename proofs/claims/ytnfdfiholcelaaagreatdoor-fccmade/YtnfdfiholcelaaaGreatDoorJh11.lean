import Derived.LaidEql
import Derived.Stop.Asserts
import Derived.RowKitTokens
import Derived.Shelf.Abstract
import Derived.Test.YtnfdfiholcelaaaGreatDoorJh00
import Derived.Test.YtnfdfiholcelaaaGreatDoorJh02
import Derived.Test.YtnfdfiholcelaaaGreatDoorJh08
import Derived.Test.YtnfdfiholcelaaaGreatDoorJh09
import Derived.Test.YtnfdfiholcelaaaGreatDoorJh10
set_option maxRecDepth 100000
set_option maxHeartbeats 20000000
namespace Go.Proofs.YtnfdfiholcelaaaGreatDoor
open Go.RowKit Plain Tryz
theorem Zam{P:Program}{op:Oper}{a:Act}{w:World}{K:Act→World→Prop}{Q:Exit→Act→World→Prop}(ty:TypeId)(x y:Operand)(ho:op.op=.store ty x y)
 (b o:Nat) (cells:Array Value) (hx:a.eval x=.pointer (some (Ad b o))) (hy:a.eval y=.agg cells)
 (ht:w.there b o cells.size) (hi:(P.info? ty).map (·.size)=some cells.size) (h1:cells.all (·.oneCell')=true) (hd:op.dst=none)
 (h:K a (w.setCells b o cells.toList)):op.wp P a w K Q:=wp_store_mid ty x y ho b o cells hx hy ht hi h1 (by rw[hd];exact h)
def NB(t:TypeId)(K:Nat)(u:World)(V:Nat)(cs:List Value):Prop:=Blk t u V cs∧K≤V
theorem NB.later{t:TypeId}{K:Nat}{u u':World}{V:Nat}{cs:List Value}(h:NB t K u V cs)(hb:Below u.heap.size u u'):NB t K u' V cs:=⟨h.1.later hb,h.2⟩
theorem NB.le{t:TypeId}{K:Nat}{u:World}{V:Nat}{cs:List Value}(h:NB t K u V cs):K≤V:=h.2
theorem NB.new{t:TypeId}{K:Nat}{X:World}(cs:List Value)(h:K≤X.heap.size):NB t K (X.alloc (.cells cs.toArray t)) X.heap.size cs:=⟨Blk.new X t cs,h⟩
theorem NB.ne{t t':TypeId}{K K':Nat}{u:World}{V V':Nat}{cs cs':List Value}(h:NB t K u V cs)(h':NB t' K' u V' cs')(hn:t≠t'):V≠V':=by
 intro e;subst e;have a:=h.1;have b:=h'.1
 unfold Blk at a b
 rw[a] at b
 simp at b
 exact hn b.2
theorem NB.farCells{t:TypeId}{K:Nat}{u:World}{V X:Nat}{cs:List Value}(hX:V≠X)(vs:List Value)(o:Nat)(h:NB t K u V cs):NB t K (u.setCells X o vs) V cs:=⟨Blk.farCells hX vs o u h.1,h.2⟩
theorem Zej:(prog.info? 33).map (·.size)=some 7:=by kernel_rfl
theorem infoV2:(prog.info? 187).map (·.size)=some 2:=by kernel_rfl
theorem Zae{w u:World}{B o:Nat}{cs:List Value}(h:w.rangeAt B o cs)(hb:Below w.heap.size w u):u.rangeAt B o cs:=fun j v hj=>cell_later hb (h j v hj)
theorem Zid{K:Nat}{wz w:World}{B:Nat}{S:FS}{C:CR}{a:Option Addr}{cap:Nat}{l:List Rd}{sv:Nat→List Sv}{G:Nat→Nat}(hf:FR K wz w B S C a cap l sv G)(i:Nat)(hi:i<3)(x m c:Int)(he:Zcz (S.bk i).b (S.bk i).l m c (tS l x) (sS l x)=0):
 Calls prog 102 #[.pointer (some (Ad B 0)),Vi i,Vi x,.agg #[Vi m,Vi c]] w fun e w'=>e=.returned .nilIface∧FR K wz w' B { S with bk:=upd S.bk i (vbk (S.bk i) m c (tS l x) (sS l x)) } C a cap l sv G:=by
 have hst:=step_ok (S.bk i).b (S.bk i).o (S.bk i).l m c (tS l x) (sS l x) he;clear he;obtain⟨vl,HV⟩:∃vl,Hid (votI (tS l x) (S.bk i).o (sS l x) (S.bk i).l=vl):=⟨_,Zab rfl⟩;simp only[HV.out] at hst;obtain⟨n0,n1,n2,o0,o1,o2,mn,HE⟩:∃n0 n1 n2 o0 o1 o2 mn,Hid (nbI (tS l x) (S.bk i).o (sS l x) (S.bk i).b vl m 0=n0∧nbI (tS l x) (S.bk i).o (sS l x) (S.bk i).b vl m 1=n1∧nbI (tS l x) (S.bk i).o (sS l x) (S.bk i).b vl m 2=n2∧noB (tS l x) (S.bk i).o (sS l x) (S.bk i).b vl m c 0=o0∧noB (tS l x) (S.bk i).o (sS l x) (S.bk i).b vl m c 1=o1∧noB (tS l x) (S.bk i).o (sS l x) (S.bk i).b vl m c 2=o2∧Zcb (tS l x) (S.bk i).o 3=mn):=⟨_,_,_,_,_,_,_,Zab ⟨rfl,rfl,rfl,rfl,rfl,rfl,rfl⟩⟩;simp only[HE.out.1,HE.out.2.1,HE.out.2.2.1,HE.out.2.2.2.1,HE.out.2.2.2.2.1,HE.out.2.2.2.2.2.1,HE.out.2.2.2.2.2.2] at hst;have HNB:Hid (bkL (vbk (S.bk i) m c (tS l x) (sS l x))=[Vi n0,Vi n1,Vi n2,.bool o0,.bool o1,.bool o2,Vi vl]):=Zab (by unfold vbk bkL;simp only[HV.out,HE.out.1,HE.out.2.1,HE.out.2.2.1,HE.out.2.2.2.1,HE.out.2.2.2.2.1,HE.out.2.2.2.2.2.1]);clear HE HV;have HF:=Zab (hf.later (Zaa w (.cells #[Vi m,Vi c] 124)));have HR:Hid (Blk 124 (w.alloc (.cells #[Vi m,Vi c] 124)) w.heap.size [Vi m,Vi c]):=Zab (Blk.new w _ [Vi m,Vi c]);clear hf
 have j0:(0:Int)≤(i:Int):=by omega
 have j1:(i:Int)<3:=by omega
 go_enter func102,ntmps102
 go_upto_region 1 with fail;generalize w.alloc (.cells #[Vi m,Vi c] 124)=w0 at *;generalize w.heap.size=R at *;have HG:=Zab (HF.out.blk.sub (i*7) 7);rw[fr_bank S C _ hi] at HG
 have kc:∀u,Below w0.heap.size w0 u→Calls prog 158 #[.pointer (some (Ad B 0)),Vi x] u fun e w'=>e=.returned (.agg #[.bool (tS l x 0),Vi (sS l x 0),.bool (tS l x 1),Vi (sS l x 1),.bool (tS l x 2),Vi (sS l x 2)])∧Below u.heap.size u w':=fun u h=>by
  have:=channels_any B a cap l x HF.out.many u (cell_later h HF.out.said) (HF.out.rds.later h)
  rwa[smL_eq] at this
 have r0:=(HR.out.cell (j:=0) rfl).1;have r1:=(HR.out.cell (j:=1) rfl).1;have HI:=Zab hi;clear hi HR;refine Cs [13,14,15,16,17,18,19,20,21,22,23,24,12,25,26,27,9,10] ?_;refine Cp 0 13 [] ?_;refine Cp 1 14 [] ?_;refine Cp 2 15 [0] ?_;refine Cp 3 16 [2] ?_;refine Cp 4 17 [3] ?_;refine Cp 5 18 [4,1] ?_;refine Cl (x:=.tmp 18) 6 19 [5] (fun y w hF u hSw=>⟨Zae HG.out hSw,hF.1⟩) underlying33 Zej ?_;refine Cq (fun _ h=>And.intro (cell_later h r0) (cell_later h r1)) 7 20 [] ?_;refine Cp 8 21 [] ?_;refine Cp 9 22 [] ?_;refine Cc 10 23 [8,9] (fun y w h _=>kc _ h) ?_;refine Cc 11 24 [6,7,10] (fun y w h _=>hst _) ?_;refine Cp 12 12 [11] ?_;refine Cp 13 25 [12] ?_;refine Cp 14 26 [12] ?_;refine Cp 15 27 [12] ?_;refine Ca 16 9 ?_;refine Ca 17 10 ?_;refine Cn 3 21 [18,19,20] (fun y u1 hB hf=>?_);obtain⟨XV,e,hA⟩:=hf.1;have HAV1:Hid (NB _ _ _ XV [Vi 0,Vi 0]):=Zab hA;(try simp only[e]);clear e hA;obtain⟨XA,e,hA⟩:=hf.2.1;have HAA1:Hid (NB _ _ _ XA [Vi 0,Vi 0,Vi 0,.bool false,.bool false,.bool false,Vi 0]):=Zab hA;(try simp only[e]);clear e hA;have HS1:=Zab hB;clear hB hf;refine Ra 18 (fun K hK=>?_);rw[if_pos (by rfl)];refine Zam 33 (.tmp 9) (.tmp 25) rfl XA 0 #[Vi n0,Vi n1,Vi n2,.bool o0,.bool o1,.bool o2,Vi vl] rfl rfl (HAA1.out.1.there (Nat.le_of_ble_eq_true rfl)) Zej (Zaq _ rfl) rfl ?_;have HS2:=Zab (Zag [Vi n0,Vi n1,Vi n2,.bool o0,.bool o1,.bool o2,Vi vl] 0 u1 HS1.out (NB.le HAA1.out));have HAA2:Hid (NB 33 w0.heap.size (u1.setCells XA 0 [Vi n0,Vi n1,Vi n2,.bool o0,.bool o1,.bool o2,Vi vl]) XA [Vi n0,Vi n1,Vi n2,.bool o0,.bool o1,.bool o2,Vi vl]):=Zab ⟨Blk.setCells [Vi n0,Vi n1,Vi n2,.bool o0,.bool o1,.bool o2,Vi vl] 0 u1 [Vi 0,Vi 0,Vi 0,.bool false,.bool false,.bool false,Vi 0] HAA1.out.1,NB.le HAA1.out⟩;have HAV2:=Zab (NB.farCells (NB.ne HAV1.out HAA1.out (by decide)) [Vi n0,Vi n1,Vi n2,.bool o0,.bool o1,.bool o2,Vi vl] 0 HAV1.out);generalize hU:World.setCells _ XA 0 _=u2 at *;clear hU;refine hK.out _ _ HS2.out (fun _=>?_);clear hK K;clear HS1 HAV1 HAA1;refine Ra 19 (fun K hK=>?_);rw[if_pos (by rfl)];refine Zam 187 (.tmp 10) (.tmp 26) rfl XV 0 #[Vi vl,Vi mn] rfl rfl (HAV2.out.1.there (Nat.le_of_ble_eq_true rfl)) infoV2 (Zaq _ rfl) rfl ?_
 have HS3:=Zab (Zag [Vi vl,Vi mn] 0 u2 HS2.out (NB.le HAV2.out));have HAV3:Hid (NB 187 w0.heap.size (u2.setCells XV 0 [Vi vl,Vi mn]) XV [Vi vl,Vi mn]):=Zab ⟨Blk.setCells [Vi vl,Vi mn] 0 u2 [Vi 0,Vi 0] HAV2.out.1,NB.le HAV2.out⟩;have HAA3:=Zab (NB.farCells (NB.ne HAA2.out HAV2.out (by decide)) [Vi vl,Vi mn] 0 HAA2.out);generalize hU:World.setCells _ XV 0 _=u3 at *;clear hU;refine hK.out _ _ HS3.out (fun _=>?_);clear hK K;clear HS2 HAV2 HAA2;refine Tq 20 HS3.out ?_;(try simp only[Act.put]);refine wpAnyH_done (by kernel_rfl) ?_ _;go_simp;have hA:=HAA3.out.1;have hB:=HS3.out;clear HAV3 HAA3 HS3;generalize u3=v at hA hB⊢;clear r0 r1 kc hst;refine Zby (by assumption) ?_;have HFv:=Zab (HF.out.later hB);have HXA:=Zab hA;have HX:Hid (XA≠B):=Zab (fun e=>by subst e;have a:=hA;have b:=HFv.out.blk;unfold Blk at a b;rw[a] at b;simp at b);clear HF hA hB
 go_upto_region 4 with fail;have HT:Hid (World.there v.drew B (i*7) 7):=Zab ((HFv.out.later (Below.refl _ _).drew).blk.there (by rw[frL_len];have:=HI.out;omega));have HX0:Hid (World.rangeAt v.drew XA 0 [Vi n0,Vi n1,Vi n2,.bool o0,.bool o1,.bool o2,Vi vl]):=Zab ((HXA.out.later (Below.refl _ _).drew).range)
 have HFin:Hid (FR K wz (World.setCells v.drew B (i*7) [Vi n0,Vi n1,Vi n2,.bool o0,.bool o1,.bool o2,Vi vl]) B { S with bk:=upd S.bk i (vbk (S.bk i) m c (tS l x) (sS l x)) } C a cap l sv G):=by
  have h:=(HFv.out.later (Below.refl _ _).drew).put { S with bk:=upd S.bk i (vbk (S.bk i) m c (tS l x) (sS l x)) } (bkL (vbk (S.bk i) m c (tS l x) (sS l x))) (i*7) (fr_putBank S C _ HI.out _) ⟨rfl,rfl⟩;rw[HNB.out] at h;exact Zab h
 clear HFv HXA;refine wp_region_held_drew (S:=fun u=>u.rangeAt XA 0 [Vi n0,Vi n1,Vi n2,.bool o0,.bool o1,.bool o2,Vi vl]) (by kernel_rfl) (HX0.out) (fun _=>?_);have HS0:Hid (v.drew.rangeAt XA 0 [Vi n0,Vi n1,Vi n2,.bool o0,.bool o1,.bool o2,Vi vl]):=Zab (HX0.out);refine Tq 0 HS0.out ?_;(try simp only[Act.put]);refine Tq 1 HS0.out ?_;(try simp only[Act.put]);refine Tk 2 rfl (yieldsIf_load_mid (by rfl) 33 (.tmp 9) rfl XA 0 rfl [Vi n0,Vi n1,Vi n2,.bool o0,.bool o1,.bool o2,Vi vl] _ (fun w hSw=>hSw) underlying33 rfl Zej) HS0.out ?_;(try simp only[Act.put]);refine Tq 3 HS0.out ?_;(try simp only[Act.put]);refine Tq 4 HS0.out ?_;(try simp only[Act.put]);refine Tq 5 HS0.out ?_;(try simp only[Act.put]);refine Tq 6 HS0.out ?_;(try simp only[Act.put]);simp only[Ly];refine Ra 7 (fun K hK=>?_);rw[if_pos (by rfl)];refine Zam 33 (.tmp 37) (.tmp 33) rfl B (i*7) #[Vi n0,Vi n1,Vi n2,.bool o0,.bool o1,.bool o2,Vi vl] rfl rfl (HT.out) Zej (Zaq _ rfl) rfl ?_;have HS1:=Zab (World.rangeAt_setCells_apart HS0.out B (i*7) [Vi n0,Vi n1,Vi n2,.bool o0,.bool o1,.bool o2,Vi vl] (.inl HX.out));refine hK.out _ _ HS1.out (fun _=>?_);clear hK K;refine wpAnyH_done (by kernel_rfl) ?_ _;go_simp;refine Zby (by assumption) ?_;go_wp2_with fail;go_ret;exact⟨rfl,HFin.out⟩
theorem Zdo{B V j:Nat}{x:Value}(hV:B≠V):∀(vs:List Value) (o:Nat) (u:World),u.cell? (Ad B j)=some x→(u.setCells V o vs).cell? (Ad B j)=some x
 |[],_,_,h=>h
 |v::r,o,u,h=>Zdo hV r (o+1) (u.setCell ⟨V,o,none⟩ v) (Zdc hV h)
def BQ(w u:World)(T R Y:Nat)(S:FS)(m c:Int):Prop:=Blk 41 u T (stL S)∧Blk 124 u R [Vi m,Vi c]∧Blk 33 u Y [Vi 0,Vi 0,Vi 0,.bool false,.bool false,.bool false,Vi 0]∧Below w.heap.size w u∧w.heap.size≤Y
theorem BQ.later{w u u':World}{T R Y:Nat}{S:FS}{m c:Int}(h:BQ w u T R Y S m c)(hb:Below u.heap.size u u'):BQ w u' T R Y S m c:=⟨h.1.later hb,h.2.1.later hb,h.2.2.1.later hb,Zac h.2.2.2.1 hb,h.2.2.2.2⟩
theorem BQ.far{w u:World}{T R Y V:Nat}{S:FS}{m c:Int}(h:BQ w u T R Y S m c)(hV:T≠V∧R≠V∧Y≠V∧w.heap.size≤V)(j:Nat)(v:Value):BQ w (u.setCell (Ad V j) v) T R Y S m c:=
 ⟨h.1.far hV.1 j v,h.2.1.far hV.2.1 j v,h.2.2.1.far hV.2.2.1 j v,h.2.2.2.1.setCell (by simpa using hV.2.2.2) v,h.2.2.2.2⟩
theorem res_bank(tmps:Array Value)(U:World)(Y:Nat)(cs:List Value)(x:Value)(h2:tmps.getD 10 undef=.pointer (some (Ad Y 0)))(h5:tmps.getD 11 undef=x)(hR:U.rangeAt Y 0 cs)(hn:cs.length=7):
 (results Tryz.f48 tmps).run prog U=.ok (.tuple #[.agg cs.toArray,x]) U:=by
 have h3:tmps[10]?.getD undef=.pointer (some (Ad Y 0)):=by simpa using h2
 have h4:tmps[11]?.getD undef=x:=by simpa using h5
 simp[results,results48,h3,h4,asAddr,run_loadVar_mid U Y 0 33 cs _ hR underlying33 rfl (by rw[Zej,hn])]
theorem refbank_any(S:FS)(i:Nat)(hi:i<3)(m c:Int)(a:Option Addr)(cap:Nat)(l:List Rd)(x:Int)(hl:l.length≤1000)(he:Zcz (S.bk i).b (S.bk i).l m c (tS l x) (sS l x)=0)(w:World)(hr:Rds w a l):
 Calls prog 48 #[.agg (stL S).toArray,Vi i,.agg #[Vi m,Vi c],.slice a l.length cap,Vi x] w fun e w'=>e=.returned (.tuple #[.agg (bkL (vbk (S.bk i) m c (tS l x) (sS l x))).toArray,Vi (vbk (S.bk i) m c (tS l x) (sS l x)).l])∧Below w.heap.size w w':=by
 have hvt:=voted_any (S.bk i).b (S.bk i).o (S.bk i).l m c (tS l x) (sS l x) (fit_of (sampE_of he)) (bankE_of he) (lastE_of he).1 (lastE_of he).2 (ruleE_of he).1.1 (ruleE_of he).1.2;clear he;obtain⟨vl,HV⟩:∃vl,Hid (votI (tS l x) (S.bk i).o (sS l x) (S.bk i).l=vl):=⟨_,Zab rfl⟩;simp only[HV.out] at hvt;obtain⟨n0,n1,n2,o0,o1,o2,mn,HE⟩:∃n0 n1 n2 o0 o1 o2 mn,Hid (nbI (tS l x) (S.bk i).o (sS l x) (S.bk i).b vl m 0=n0∧nbI (tS l x) (S.bk i).o (sS l x) (S.bk i).b vl m 1=n1∧nbI (tS l x) (S.bk i).o (sS l x) (S.bk i).b vl m 2=n2∧noB (tS l x) (S.bk i).o (sS l x) (S.bk i).b vl m c 0=o0∧noB (tS l x) (S.bk i).o (sS l x) (S.bk i).b vl m c 1=o1∧noB (tS l x) (S.bk i).o (sS l x) (S.bk i).b vl m c 2=o2∧Zcb (tS l x) (S.bk i).o 3=mn):=⟨_,_,_,_,_,_,_,Zab ⟨rfl,rfl,rfl,rfl,rfl,rfl,rfl⟩⟩;simp only[HE.out.1,HE.out.2.1,HE.out.2.2.1,HE.out.2.2.2.1,HE.out.2.2.2.2.1,HE.out.2.2.2.2.2.1,HE.out.2.2.2.2.2.2] at hvt;have HNB:Hid (bkL (vbk (S.bk i) m c (tS l x) (sS l x))=[Vi n0,Vi n1,Vi n2,.bool o0,.bool o1,.bool o2,Vi vl]∧(vbk (S.bk i) m c (tS l x) (sS l x)).l=vl):=Zab (by unfold vbk bkL;simp only[HV.out,HE.out.1,HE.out.2.1,HE.out.2.2.1,HE.out.2.2.2.1,HE.out.2.2.2.2.1,HE.out.2.2.2.2.2.1,and_self]);clear HE HV
 have HQ0:Hid (BQ w ((((w.alloc (.cells (stL S).toArray 41)).alloc (.cells #[Vi m,Vi c] 124)).alloc (.cells #[Vi 0,Vi 0,Vi 0,.bool false,.bool false,.bool false,Vi 0] 33)).alloc (.cells #[.bool false,Vi 0,.bool false,Vi 0,.bool false,Vi 0] 185)) w.heap.size (w.heap.size+1) (w.heap.size+1+1) S m c):=Zab ⟨(((Blk.new w _ (stL S)).later (Zaa _ _)).later (Zaa _ _)).later (Zaa _ _),by
  have:=Blk.new (w.alloc (.cells (stL S).toArray 41)) 124 [Vi m,Vi c];rw[World.size_alloc] at this;exact(this.later (Zaa _ _)).later (Zaa _ _),by
  have:=Blk.new ((w.alloc (.cells (stL S).toArray 41)).alloc (.cells #[Vi m,Vi c] 124)) 33 [Vi 0,Vi 0,Vi 0,.bool false,.bool false,.bool false,Vi 0];rw[World.size_alloc,World.size_alloc] at this;exact this.later (Zaa _ _),Zac (Zac (Zac (Zaa _ _) (Zaa _ _)) (Zaa _ _)) (Zaa _ _),by omega⟩
 have HI0:Hid (Blk 185 ((((w.alloc (.cells (stL S).toArray 41)).alloc (.cells #[Vi m,Vi c] 124)).alloc (.cells #[Vi 0,Vi 0,Vi 0,.bool false,.bool false,.bool false,Vi 0] 33)).alloc (.cells #[.bool false,Vi 0,.bool false,Vi 0,.bool false,Vi 0] 185)) (w.heap.size+1+1+1) [.bool false,Vi 0,.bool false,Vi 0,.bool false,Vi 0]):=Zab (by have:=Blk.new (((w.alloc (.cells (stL S).toArray 41)).alloc (.cells #[Vi m,Vi c] 124)).alloc (.cells #[Vi 0,Vi 0,Vi 0,.bool false,.bool false,.bool false,Vi 0] 33)) 185 [.bool false,Vi 0,.bool false,Vi 0,.bool false,Vi 0];rw[World.size_alloc,World.size_alloc,World.size_alloc] at this;exact this);have HR0:=Zab (hr.later HQ0.out.2.2.2.1);have HP:Hid (∀g,a=some (Ad g 0)→l≠[]→g≠w.heap.size+1+1+1):=Zab (fun g hg hn=>by have:=hr.lt g hg hn;omega);have HN:Hid (w.heap.size≠w.heap.size+1+1+1∧w.heap.size+1≠w.heap.size+1+1+1∧w.heap.size+1+1≠w.heap.size+1+1+1∧w.heap.size≤w.heap.size+1+1+1):=Zab (by omega);clear hr
 go_enter func48,ntmps48
 go_upto_region 2 with fail;generalize ((((w.alloc (.cells (stL S).toArray 41)).alloc (.cells #[Vi m,Vi c] 124)).alloc (.cells #[Vi 0,Vi 0,Vi 0,.bool false,.bool false,.bool false,Vi 0] 33)).alloc (.cells #[.bool false,Vi 0,.bool false,Vi 0,.bool false,Vi 0] 185))=w0 at *;generalize w.heap.size+1+1+1=I at *;generalize w.heap.size+1+1=Y at *;generalize w.heap.size+1=R at *;go_wp2_with fail;refine wp_loop_rounds 4 ?_;rw[rounds_succ]
 go_wp2_with (first
  |(go_at_call 52;refine Sb (Zdm a cap l x 0 hl _ HR0.out) fun u0 hb=>?_;have HQu:=Zab (HQ0.out.later hb);have HIu:=Zab (HI0.out.later hb);have HRu:=Zab (HR0.out.later hb);have q0:=(HIu.out.cell (j:=0) rfl).1;have q1:=(HIu.out.cell (j:=1) rfl).1;have f0:=(HIu.out.cell (j:=0) rfl).2;have f1:=(HIu.out.cell (j:=1) rfl).2;clear hb HR0 HI0 HQ0))
 have HI1:Hid (Blk 185 ((u0.setCell (Ad I 0) (.bool (smp l x 0).1)).setCell (Ad I 1) (Vi (smp l x 0).2)) I [.bool (smp l x 0).1,Vi (smp l x 0).2,.bool false,Vi 0,.bool false,Vi 0]):=Zab ((HIu.out.set 0 (.bool (smp l x 0).1)).set 1 (Vi (smp l x 0).2));have HQ1:=Zab ((HQu.out.far HN.out 0 (.bool (smp l x 0).1)).far HN.out 1 (Vi (smp l x 0).2));have HR1:=Zab (Zdn HP.out (Zdn HP.out HRu.out (j:=0) (v:=.bool (smp l x 0).1)) (j:=1) (v:=Vi (smp l x 0).2));clear q0 q1 f0 f1 HIu HQu HRu;generalize (u0.setCell (Ad I 0) (.bool (smp l x 0).1)).setCell (Ad I 1) (Vi (smp l x 0).2)=w1 at *;rw[rounds_succ]
 go_wp2_with (first
  |(go_at_call 52;refine Sb (Zdm a cap l x 1 hl _ HR1.out) fun u1 hb=>?_;have HQu:=Zab (HQ1.out.later hb);have HIu:=Zab (HI1.out.later hb);have HRu:=Zab (HR1.out.later hb);have q0:=(HIu.out.cell (j:=2) rfl).1;have q1:=(HIu.out.cell (j:=3) rfl).1;have f0:=(HIu.out.cell (j:=2) rfl).2;have f1:=(HIu.out.cell (j:=3) rfl).2;clear hb HR1 HI1 HQ1))
 have HI2:Hid (Blk 185 ((u1.setCell (Ad I 2) (.bool (smp l x 1).1)).setCell (Ad I 3) (Vi (smp l x 1).2)) I [.bool (smp l x 0).1,Vi (smp l x 0).2,.bool (smp l x 1).1,Vi (smp l x 1).2,.bool false,Vi 0]):=Zab ((HIu.out.set 2 (.bool (smp l x 1).1)).set 3 (Vi (smp l x 1).2));have HQ2:=Zab ((HQu.out.far HN.out 2 (.bool (smp l x 1).1)).far HN.out 3 (Vi (smp l x 1).2));have HR2:=Zab (Zdn HP.out (Zdn HP.out HRu.out (j:=2) (v:=.bool (smp l x 1).1)) (j:=3) (v:=Vi (smp l x 1).2));clear q0 q1 f0 f1 HIu HQu HRu;generalize (u1.setCell (Ad I 2) (.bool (smp l x 1).1)).setCell (Ad I 3) (Vi (smp l x 1).2)=w2 at *;rw[rounds_succ]
 go_wp2_with (first
  |(go_at_call 52;refine Sb (Zdm a cap l x 2 hl _ HR2.out) fun u2 hb=>?_;have HQu:=Zab (HQ2.out.later hb);have HIu:=Zab (HI2.out.later hb);have HRu:=Zab (HR2.out.later hb);have q0:=(HIu.out.cell (j:=4) rfl).1;have q1:=(HIu.out.cell (j:=5) rfl).1;have f0:=(HIu.out.cell (j:=4) rfl).2;have f1:=(HIu.out.cell (j:=5) rfl).2;clear hb HR2 HI2 HQ2))
 have HI3:Hid (Blk 185 ((u2.setCell (Ad I 4) (.bool (smp l x 2).1)).setCell (Ad I 5) (Vi (smp l x 2).2)) I [.bool (smp l x 0).1,Vi (smp l x 0).2,.bool (smp l x 1).1,Vi (smp l x 1).2,.bool (smp l x 2).1,Vi (smp l x 2).2]):=Zab ((HIu.out.set 4 (.bool (smp l x 2).1)).set 5 (Vi (smp l x 2).2));have HQ3:=Zab ((HQu.out.far HN.out 4 (.bool (smp l x 2).1)).far HN.out 5 (Vi (smp l x 2).2));have HR3:=Zab (Zdn HP.out (Zdn HP.out HRu.out (j:=4) (v:=.bool (smp l x 2).1)) (j:=5) (v:=Vi (smp l x 2).2));clear q0 q1 f0 f1 HIu HQu HRu;generalize (u2.setCell (Ad I 4) (.bool (smp l x 2).1)).setCell (Ad I 5) (Vi (smp l x 2).2)=w3 at *;rw[rounds_succ]
 go_upto_region 6 with fail;have HG:=Zab (HQ3.out.1.sub (i*7) 7);rw[st_bank S hi] at HG;have r0:=(HQ3.out.2.1.cell (j:=0) rfl).1;have r1:=(HQ3.out.2.1.cell (j:=1) rfl).1;have y0:w3.cell? (Ad I 0)=some (.bool (tS l x 0)):=(HI3.out.cell (j:=0) rfl).1;have y1:w3.cell? (Ad I 1)=some (Vi (sS l x 0)):=(HI3.out.cell (j:=1) rfl).1;have y2:w3.cell? (Ad I 2)=some (.bool (tS l x 1)):=(HI3.out.cell (j:=2) rfl).1;have y3:w3.cell? (Ad I 3)=some (Vi (sS l x 1)):=(HI3.out.cell (j:=3) rfl).1;have y4:w3.cell? (Ad I 4)=some (.bool (tS l x 2)):=(HI3.out.cell (j:=4) rfl).1;have y5:w3.cell? (Ad I 5)=some (Vi (sS l x 2)):=(HI3.out.cell (j:=5) rfl).1;clear HI3 HR3 HP HN
 have j0:(0:Int)≤(i:Int):=by omega
 have j1:(i:Int)<3:=by omega
 clear hi hl;refine Cs [28,29,30,31,32,33,34,27,35,36,14,15] ?_;refine Cp 0 28 [] ?_;refine Cp 1 29 [] ?_;refine Cp 2 30 [1,0] ?_;refine Cl (x:=.tmp 30) 3 31 [2] (fun y w hF u hSw=>⟨Zae HG.out hSw,hF.1⟩) underlying33 Zej ?_;refine Cq (fun _ h=>And.intro (cell_later h r0) (cell_later h r1)) 4 32 [] ?_;refine Cq (fun _ h=>And.intro (cell_later h y0) (And.intro (cell_later h y1) (And.intro (cell_later h y2) (And.intro (cell_later h y3) (And.intro (cell_later h y4) (cell_later h y5)))))) 5 33 [] ?_;refine Cc 6 34 [3,4,5] (fun y w h _=>hvt _) ?_;refine Cp 7 27 [6] ?_;refine Cp 8 35 [7] ?_;refine Cp 9 36 [7] ?_;refine Ca 10 14 ?_;refine Ca 11 15 ?_;refine Cn 2 14 [12,13] (fun y u1 hB hf=>?_);obtain⟨XV,e,hA⟩:=hf.1;have HAV1:Hid (NB _ _ _ XV [Vi 0,Vi 0]):=Zab hA;(try simp only[e]);clear e hA;obtain⟨XA,e,hA⟩:=hf.2.1;have HAA1:Hid (NB _ _ _ XA [Vi 0,Vi 0,Vi 0,.bool false,.bool false,.bool false,Vi 0]):=Zab hA;(try simp only[e]);clear e hA;have HS1:=Zab hB;clear hB hf;refine Ra 12 (fun K hK=>?_);rw[if_pos (by rfl)];refine Zam 33 (.tmp 14) (.tmp 35) rfl XA 0 #[Vi n0,Vi n1,Vi n2,.bool o0,.bool o1,.bool o2,Vi vl] rfl rfl (HAA1.out.1.there (Nat.le_of_ble_eq_true rfl)) Zej (Zaq _ rfl) rfl ?_;have HS2:=Zab (Zag [Vi n0,Vi n1,Vi n2,.bool o0,.bool o1,.bool o2,Vi vl] 0 u1 HS1.out (NB.le HAA1.out));have HAA2:Hid (NB 33 w3.heap.size (u1.setCells XA 0 [Vi n0,Vi n1,Vi n2,.bool o0,.bool o1,.bool o2,Vi vl]) XA [Vi n0,Vi n1,Vi n2,.bool o0,.bool o1,.bool o2,Vi vl]):=Zab ⟨Blk.setCells [Vi n0,Vi n1,Vi n2,.bool o0,.bool o1,.bool o2,Vi vl] 0 u1 [Vi 0,Vi 0,Vi 0,.bool false,.bool false,.bool false,Vi 0] HAA1.out.1,NB.le HAA1.out⟩;have HAV2:=Zab (NB.farCells (NB.ne HAV1.out HAA1.out (by decide)) [Vi n0,Vi n1,Vi n2,.bool o0,.bool o1,.bool o2,Vi vl] 0 HAV1.out);generalize hU:World.setCells _ XA 0 _=u2 at *;clear hU;refine hK.out _ _ HS2.out (fun _=>?_);clear hK K;clear HS1 HAV1 HAA1;refine Ra 13 (fun K hK=>?_);rw[if_pos (by rfl)];refine Zam 187 (.tmp 15) (.tmp 36) rfl XV 0 #[Vi vl,Vi mn] rfl rfl (HAV2.out.1.there (Nat.le_of_ble_eq_true rfl)) infoV2 (Zaq _ rfl) rfl ?_;have HS3:=Zab (Zag [Vi vl,Vi mn] 0 u2 HS2.out (NB.le HAV2.out))
 have HAV3:Hid (NB 187 w3.heap.size (u2.setCells XV 0 [Vi vl,Vi mn]) XV [Vi vl,Vi mn]):=Zab ⟨Blk.setCells [Vi vl,Vi mn] 0 u2 [Vi 0,Vi 0] HAV2.out.1,NB.le HAV2.out⟩;have HAA3:=Zab (NB.farCells (NB.ne HAA2.out HAV2.out (by decide)) [Vi vl,Vi mn] 0 HAA2.out);generalize hU:World.setCells _ XV 0 _=u3 at *;clear hU;refine hK.out _ _ HS3.out (fun _=>?_);clear hK K;clear HS2 HAV2 HAA2;refine wpAnyH_done (by kernel_rfl) ?_ _;go_simp;have hA:=HAA3.out;have hV:=HAV3.out;have hB:=HS3.out;clear HAV3 HAA3 HS3;generalize u3=v at hA hV hB⊢;clear r0 r1 y0 y1 y2 y3 y4 y5 hvt;refine Zby (by assumption) ?_;have HQv:=Zab (HQ3.out.later hB);have HX:Hid (XA≠Y∧XV≠Y):=Zab (by have:=HQ3.out.2.2.1.lt;have:=NB.le hA;have:=NB.le hV;omega);have HXA:=Zab hA;have HXV:=Zab hV;clear hA hV hB HQ3
 go_upto_region 7 with fail;have HT:Hid (World.there v.drew Y 0 7):=Zab ((HQv.out.2.2.1.later (Below.refl _ _).drew).there (Nat.le_of_ble_eq_true rfl));have HX0:Hid (World.rangeAt v.drew XA 0 [Vi n0,Vi n1,Vi n2,.bool o0,.bool o1,.bool o2,Vi vl]∧World.cell? v.drew ⟨XV,0,none⟩=some (Vi vl)):=Zab ⟨(HXA.out.1.later (Below.refl _ _).drew).range,((HXV.out.1.later (Below.refl _ _).drew).cell (j:=0) rfl).1⟩;have HR:Hid (World.rangeAt (World.setCells v.drew Y 0 [Vi n0,Vi n1,Vi n2,.bool o0,.bool o1,.bool o2,Vi vl]) Y 0 [Vi n0,Vi n1,Vi n2,.bool o0,.bool o1,.bool o2,Vi vl]):=Zab (World.rangeAt_setCells_same _ _ _ _ HT.out);have HB:Hid (Below w.heap.size w (World.setCells v.drew Y 0 [Vi n0,Vi n1,Vi n2,.bool o0,.bool o1,.bool o2,Vi vl])):=Zab (Zag [Vi n0,Vi n1,Vi n2,.bool o0,.bool o1,.bool o2,Vi vl] 0 v.drew (HQv.out.2.2.2.1.drew) HQv.out.2.2.2.2);clear HXA HXV HQv;refine wp_region_held_drew (S:=fun u=>(u.rangeAt XA 0 [Vi n0,Vi n1,Vi n2,.bool o0,.bool o1,.bool o2,Vi vl]∧u.cell? (Ad XV 0)=some (Vi vl))) (by kernel_rfl) (HX0.out) (fun _=>?_);have HS0:Hid ((v.drew.rangeAt XA 0 [Vi n0,Vi n1,Vi n2,.bool o0,.bool o1,.bool o2,Vi vl]∧v.drew.cell? (Ad XV 0)=some (Vi vl))):=Zab (HX0.out);refine Tk 0 rfl (yieldsIf_load_mid (by rfl) 33 (.tmp 14) rfl XA 0 rfl [Vi n0,Vi n1,Vi n2,.bool o0,.bool o1,.bool o2,Vi vl] _ (fun w hSw=>hSw.1) underlying33 rfl Zej) HS0.out ?_;(try simp only[Act.put]);refine Tq 1 HS0.out ?_;(try simp only[Act.put]);refine Th 2 rfl (by intro w hSw;(try dsimp only at hSw);have y:=hSw.2;clear hSw;go_simp;(try with_reducible rfl)) HS0.out ?_;(try simp only[Act.put]);simp only[Ly];refine Ra 3 (fun K hK=>?_);rw[if_pos (by rfl)];refine Zam 33 (.tmp 10) (.tmp 37) rfl Y (0) #[Vi n0,Vi n1,Vi n2,.bool o0,.bool o1,.bool o2,Vi vl] rfl rfl (HT.out) Zej (Zaq _ rfl) rfl ?_;have HS1:=Zab (And.intro (World.rangeAt_setCells_apart HS0.out.1 Y 0 [Vi n0,Vi n1,Vi n2,.bool o0,.bool o1,.bool o2,Vi vl] (.inl HX.out.1)) (Zdo HX.out.2 [Vi n0,Vi n1,Vi n2,.bool o0,.bool o1,.bool o2,Vi vl] 0 _ HS0.out.2));refine hK.out _ _ HS1.out (fun _=>?_);clear hK K;refine Tq 4 HS1.out ?_;(try simp only[Act.put]);refine wpAnyH_done (by kernel_rfl) ?_ _;go_simp;refine Zby (by assumption) ?_;go_wp2_with fail
 refine bodyPost_ret (v:=.tuple #[.agg #[Vi n0,Vi n1,Vi n2,.bool o0,.bool o1,.bool o2,Vi vl],Vi vl]) (res_bank _ _ Y [Vi n0,Vi n1,Vi n2,.bool o0,.bool o1,.bool o2,Vi vl] _ rfl rfl HR.out rfl) rfl ⟨by rw[HNB.out.1,HNB.out.2],HB.out⟩
end Go.Proofs.YtnfdfiholcelaaaGreatDoor
namespace Go.Proofs.YtnfdfiholcelaaaGreatDoor
open Go.RowKit Go.Extern.Stop Go.Stop Go.Extern Plain Tryz
def GV(w:World):Prop:=w.cell? (Ad 0 0)=some (.iface 293 (.agg #[.pointer (some (Ad 1 51))]))
theorem GV.later{w w':World}(h:GV w)(hb:Below w.heap.size w w'):GV w':=cell_later hb h
theorem GV.lt{w:World}(h:GV w):0<w.heap.size:=World.block_lt_of_cell? w ⟨0,0,none⟩ h
theorem as_nil(t:Value)(w:World):Calls prog 101 #[.nilIface,t] w fun e w'=>e=.returned (.bool false)∧w'=w:=by
 go_enter func101,ntmps101
 go_wp2;go_ret;exact⟨rfl,rfl⟩
theorem as_valueOfP(t:Addr)(w:World):(ReflectliteValue.unpack (.iface 202 (.pointer (some t)))).run prog w=.ok (.agg #[.pointer (some (Ad 1 202)),.pointer (some (Ad w.heap.size 0)),.int .u64 150]) (w.alloc (.cells #[.pointer (some t)] 202)):=by kernel_rfl
theorem as_typeP(a:Addr)(w:World):(ReflectliteValue.methodAny (ReflectliteValue.valueError "reflectlite.Value.Type" 0) (fun t _ _ _=>ReflectliteType.toType t) #[.agg #[.pointer (some (Ad 1 202)),.pointer (some a),.int .u64 150]]).run prog w=.ok (.iface 293 (.agg #[.pointer (some (Ad 1 202))])) w:=by kernel_rfl
theorem as_mKind(h:Value)(w:World):(Go.method 521 293 (.agg #[h]) "Kind").run prog w=.ok (304,h) w:=by kernel_rfl
theorem as_kindP(w:World):((ReflectliteType.abiMethod fun t=>(fun a:Nat=>Value.int IntKind.u8 (a:Int)) <$> Rtype.kind t) #[.pointer (some (Ad 1 202))]).run prog w=.ok (.int .u8 22) w:=by kernel_rfl
theorem as_kindE(w:World):((ReflectliteType.abiMethod fun t=>(fun a:Nat=>Value.int IntKind.u8 (a:Int)) <$> Rtype.kind t) #[.pointer (some (Ad 1 44))]).run prog w=.ok (.int .u8 2) w:=by kernel_rfl
theorem as_partsP(a:Addr)(w:World):(ReflectliteValue.parts (.agg #[.pointer (some (Ad 1 202)),.pointer (some a),.int .u64 150])).run prog w=.ok (some (202,a,150)) w:=by kernel_rfl
theorem as_isNilP(a p:Addr)(W:World)(ha:W.cell? a=some (.pointer (some p))):
 (ReflectliteValue.method (ReflectliteValue.valueError "reflectlite.Value.IsNil" 0) ReflectliteValue.isNil #[.agg #[.pointer (some (Ad 1 202)),.pointer (some a),.int .u64 150]]).run prog W=.ok (.bool false) W:=by
 show Sem.run prog (ReflectliteValue.parts _ >>= _) W=_
 simp only[Array.getLit,List.getElem_toArray,List.getElem_cons_zero,Sem.run_bind,as_partsP,Result.andThen]
 simp[ReflectliteValue.isNil,loadVar,isAgg,underlying,underlying202,ha,Result.andThen]
theorem as_mElem(h:Value)(w:World):(Go.method 521 293 (.agg #[h]) "Elem").run prog w=.ok (314,.agg #[h]) w:=by kernel_rfl
theorem as_mImpl(h:Value)(w:World):(Go.method 521 293 (.agg #[h]) "Implements").run prog w=.ok (315,.agg #[h]) w:=by kernel_rfl
theorem as_mAss(h:Value)(w:World):(Go.method 521 293 (.agg #[h]) "AssignableTo").run prog w=.ok (312,.agg #[h]) w:=by kernel_rfl
theorem as_elemP(w:World):(ReflectliteType.method ReflectliteType.elem #[.agg #[.pointer (some (Ad 1 202))]]).run prog w=.ok (.iface 293 (.agg #[.pointer (some (Ad 1 44))])) w:=by kernel_rfl
theorem as_implE(w:World):(ReflectliteType.relation "Implements" ReflectliteType.implements_ #[.agg #[.pointer (some (Ad 1 44))],.iface 293 (.agg #[.pointer (some (Ad 1 51))])]).run prog w=.ok (.bool true) w:=by kernel_rfl
theorem as_typeOfE(v:Value)(w:World):(ReflectliteType.typeOf #[.iface 44 v]).run prog w=.ok (.iface 293 (.agg #[.pointer (some (Ad 1 44))])) w:=by kernel_rfl
theorem as_assE(w:World):(ReflectliteType.relation "AssignableTo" ReflectliteType.assignableTo #[.agg #[.pointer (some (Ad 1 44))],.iface 293 (.agg #[.pointer (some (Ad 1 44))])]).run prog w=.ok (.bool true) w:=by kernel_rfl
theorem as_valueOfE(e:Int)(w:World):(ReflectliteValue.unpack (.iface 44 (Vi e))).run prog w=.ok (.agg #[.pointer (some (Ad 1 44)),.pointer (some (Ad w.heap.size 0)),.int .u64 130]) (w.alloc (.cells #[Vi e] 44)):=by kernel_rfl
theorem as_elemOfP(w:World):(Rtype.elem? 202).run prog w=.ok (some 44) w:=by kernel_rfl
theorem as_mkE(p:Addr)(w:World):(ReflectliteValue.mk 44 p ReflectliteValue.flagAddr).run prog w=.ok (.agg #[.pointer (some (Ad 1 44)),.pointer (some p),.int .u64 386]) w:=by kernel_rfl
theorem as_elemVP(a p:Addr)(W:World)(ha:W.cell? a=some (.pointer (some p))):
 (ReflectliteValue.method (ReflectliteValue.valueError "reflectlite.Value.Elem" 0) ReflectliteValue.elem #[.agg #[.pointer (some (Ad 1 202)),.pointer (some a),.int .u64 150]]).run prog W=.ok (.agg #[.pointer (some (Ad 1 44)),.pointer (some p),.int .u64 386]) W:=by
 show Sem.run prog (ReflectliteValue.parts _ >>= _) W=_
 simp only[Array.getLit,List.getElem_toArray,List.getElem_cons_zero,Sem.run_bind,as_partsP,Result.andThen]
 simp[ReflectliteValue.elem,loadVar,isAgg,underlying,underlying202,ha,Result.andThen,as_elemOfP,as_mkE]
theorem as_partsEa(a:Addr)(w:World):(ReflectliteValue.parts (.agg #[.pointer (some (Ad 1 44)),.pointer (some a),.int .u64 386])).run prog w=.ok (some (44,a,386)) w:=by kernel_rfl
theorem as_partsE(a:Addr)(w:World):(ReflectliteValue.parts (.agg #[.pointer (some (Ad 1 44)),.pointer (some a),.int .u64 130])).run prog w=.ok (some (44,a,130)) w:=by kernel_rfl
theorem as_directE(w:World):(Rtype.directlyAssignable 44 44).run prog w=.ok true w:=by kernel_rfl
theorem as_setE(ta b:Addr)(e:Int)(old:Value)(W:World)(hb:W.cell? b=some (Vi e))(ht:W.cell? ta=some old)(hf:W.frozen? ta=false):
 (ReflectliteValue.set #[.agg #[.pointer (some (Ad 1 44)),.pointer (some ta),.int .u64 386],.agg #[.pointer (some (Ad 1 44)),.pointer (some b),.int .u64 130]]).run prog W=.ok (.tuple #[]) (W.setCell ta (Vi e)):=by
 show Sem.run prog (ReflectliteValue.parts _ >>= _) W=_
 simp only[Array.getLit,List.getElem_toArray,List.getElem_cons_zero,List.getElem_cons_succ,Sem.run_bind,as_partsEa,as_partsE,Result.andThen]
 simp[ReflectliteValue.flagAddr,loadVar,isAgg,underlying,underlying44,hb,Result.andThen,as_directE,storeVar,Value.cells,storeCells,Addr.add]
 rw[run_store prog W ta _ _ (by rfl)]
 simp[ht,hf]
theorem as_hit(e:Int)(t:Addr)(old:Value)(w:World)(hg:GV w)(ht0:w.cell? t=some old)(hf0:w.frozen? t=false):
 Calls prog 101 #[.iface 44 (Vi e),.iface 202 (.pointer (some t))] w fun ev w'=>ev=.returned (.bool true)∧w'=((((w.alloc (.cells #[.pointer (some t)] 202)).alloc (.cells #[.pointer (some (Ad 1 202)),.pointer (some (Ad w.heap.size 0)),.int .u64 150] 251)).alloc (.cells #[.pointer (some (Ad 1 202)),.pointer (some (Ad w.heap.size 0)),.int .u64 150] 251)).alloc (.cells #[Vi e] 44)).setCell t (Vi e):=by
 have x0:=@run_callFunc_extern prog 153 _ (fun args=>ReflectliteValue.unpack (args.getD 0 (.tuple #[]))) func153 (by kernel_rfl) (by kernel_rfl) (by kernel_rfl) (by kernel_rfl);have x1:=@run_callFunc_extern prog 154 _ (ReflectliteValue.methodAny (ReflectliteValue.valueError "reflectlite.Value.Type" 0) (fun t _ _ _=>ReflectliteType.toType t)) func154 (by kernel_rfl) (by kernel_rfl) (by kernel_rfl) (by kernel_rfl);have x2:=@run_callFunc_extern prog 155 _ (ReflectliteValue.method (ReflectliteValue.valueError "reflectlite.Value.IsNil" 0) ReflectliteValue.isNil) func155 (by kernel_rfl) (by kernel_rfl) (by kernel_rfl) (by kernel_rfl);have x3:=@run_callFunc_extern prog 304 _ (ReflectliteType.abiMethod fun t=>do pure (.int .u8 (←Rtype.kind t))) func304 (by kernel_rfl) (by kernel_rfl) (by kernel_rfl) (by kernel_rfl);have x4:=@run_callFunc_extern prog 314 _ (ReflectliteType.method ReflectliteType.elem) func314 (by kernel_rfl) (by kernel_rfl) (by kernel_rfl) (by kernel_rfl);have x5:=@run_callFunc_extern prog 315 _ (ReflectliteType.relation "Implements" ReflectliteType.implements_) func315 (by kernel_rfl) (by kernel_rfl) (by kernel_rfl) (by kernel_rfl);have x6:=@run_callFunc_extern prog 207 _ ReflectliteType.typeOf func207 (by kernel_rfl) (by kernel_rfl) (by kernel_rfl) (by kernel_rfl);have x7:=@run_callFunc_extern prog 312 _ (ReflectliteType.relation "AssignableTo" ReflectliteType.assignableTo) func312 (by kernel_rfl) (by kernel_rfl) (by kernel_rfl) (by kernel_rfl);have x8:=@run_callFunc_extern prog 208 _ (ReflectliteValue.method (ReflectliteValue.valueError "reflectlite.Value.Elem" 0) ReflectliteValue.elem) func208 (by kernel_rfl) (by kernel_rfl) (by kernel_rfl) (by kernel_rfl);have x9:=@run_callFunc_extern prog 209 _ ReflectliteValue.set func209 (by kernel_rfl) (by kernel_rfl) (by kernel_rfl) (by kernel_rfl);have tO:=as_typeOfE;have mA:=as_mAss;have a25:=as_assE;have v25:=as_valueOfE;have f6:=as_valueOfP;have f7:=as_typeP;have mK:=as_mKind;have mE:=as_mElem;have mI:=as_mImpl;have k27:=as_kindP;have k25:=as_kindE;have e27:=as_elemP;have i25:=as_implE;have n8:=as_isNilP ⟨w.heap.size,0,none⟩ t ((w.alloc (.cells #[.pointer (some t)] 202)).alloc (.cells #[.pointer (some (Ad 1 202)),.pointer (some (Ad w.heap.size 0)),.int .u64 150] 251)) (by simp);have hlt:=hg.lt
 have hg2:((w.alloc (.cells #[.pointer (some t)] 202)).alloc (.cells #[.pointer (some (Ad 1 202)),.pointer (some (Ad w.heap.size 0)),.int .u64 150] 251)).cell? (Ad 0 0)=some (.iface 293 (.agg #[.pointer (some (Ad 1 51))])):=by
  rw[World.cell?_alloc_lt _ _ ⟨0,0,none⟩ (by first|(simp;done)|(simp;omega)),World.cell?_alloc_lt _ _ ⟨0,0,none⟩ hlt];exact hg
 have htl:t.block<w.heap.size:=World.block_lt_of_cell? w t ht0;have el:=as_elemVP ⟨w.heap.size,0,none⟩ t (((w.alloc (.cells #[.pointer (some t)] 202)).alloc (.cells #[.pointer (some (Ad 1 202)),.pointer (some (Ad w.heap.size 0)),.int .u64 150] 251)).alloc (.cells #[.pointer (some (Ad 1 202)),.pointer (some (Ad w.heap.size 0)),.int .u64 150] 251)) (by rw[World.cell?_alloc_lt _ _ ⟨w.heap.size,0,none⟩ (by simp;omega)];simp);have st:=as_setE t ⟨w.heap.size+1+1+1,0,none⟩ e old ((((w.alloc (.cells #[.pointer (some t)] 202)).alloc (.cells #[.pointer (some (Ad 1 202)),.pointer (some (Ad w.heap.size 0)),.int .u64 150] 251)).alloc (.cells #[.pointer (some (Ad 1 202)),.pointer (some (Ad w.heap.size 0)),.int .u64 150] 251)).alloc (.cells #[Vi e] 44))
  (by rw[World.cell?_alloc_at _ _ _ _ (by simp)];rfl)
  (by rw[World.cell?_alloc_lt _ _ t (by simp;omega),World.cell?_alloc_lt _ _ t (by simp;omega),World.cell?_alloc_lt _ _ t (by simp;omega),World.cell?_alloc_lt _ _ t htl];exact ht0)
  (by rw[World.frozen?_alloc_old _ _ t (by simp;omega),World.frozen?_alloc_old _ _ t (by simp;omega),World.frozen?_alloc_old _ _ t (by simp;omega),World.frozen?_alloc_old _ _ t (Nat.ne_of_lt htl)];exact hf0)
 go_enter func101,ntmps101
 go_wp2;refine wp_loop_rounds 1 ?_;rw[rounds_succ];go_wp2;go_ret;exact⟨rfl,rfl⟩
end Go.Proofs.YtnfdfiholcelaaaGreatDoor
namespace Go.Proofs.YtnfdfiholcelaaaGreatDoor
open Go.RowKit Plain Tryz
def fstN(e:Nat→Int):Nat→Int
 |0=>0
 |n+1=>if fstN e n=0 then e n else fstN e n
theorem Zel{e:Nat→Int}:∀{n:Nat},(∀j,j<n→e j=0)→fstN e n=0
 |0,_=>rfl
 |n+1,h=>by
  have:=Zel (n:=n) (fun j hj=>h j (by omega))
  simp[fstN,this,h n (by omega)]
theorem fstN_at{e:Nat→Int}{k:Nat}(h:∀j,j<k→e j=0)(hk:e k≠0):∀{n:Nat},k<n→fstN e n=e k
 |0,hn=>by omega
 |n+1,hn=>by
  rcases Nat.lt_or_ge k n with h'|h'
  · have:=fstN_at h hk h';simp only[fstN,this,if_neg hk]
  · obtain rfl:k=n:=by omega
    simp only[fstN,Zel h,if_true]
theorem Ziz{e:Nat→Int}:∀{n:Nat},fstN e n=0→∀j,j<n→e j=0
 |0,_,j,hj=>by omega
 |n+1,h,j,hj=>by
  have h0:fstN e n=0:=by
   unfold fstN at h
   split at h
   · assumption
   · exact h
  rcases Nat.lt_or_ge j n with h'|h'
  · exact Ziz h0 j h'
  · obtain rfl:j=n:=by omega
    simpa[fstN,h0] using h
def Clos(w:World)(a:Option Addr)(n:Nat)(g:Nat→Nat)(cb:Nat→Array Value):Prop:=n=0∨∃b off,a=some (Ad b off)∧∀k,k<n→w.cell? (Ad b (off+k))=some (.func (.func (g k)) #[] (cb k))
theorem Clos.later{w w':World}{a:Option Addr}{n:Nat}{g:Nat→Nat}{cb:Nat→Array Value}(h:Clos w a n g cb)(hb:Below w.heap.size w w'):Clos w' a n g cb:=by
 rcases h with h|⟨b,off,h,hc⟩
 · exact .inl h
 · exact .inr ⟨b,off,h,fun k hk=>cell_later hb (hc k hk)⟩
theorem Clos.at{w:World}{a:Option Addr}{n:Nat}{g:Nat→Nat}{cb:Nat→Array Value}(h:Clos w a n g cb){k:Nat}(hk:k<n):∃b off,a=some (Ad b off)∧w.cell? (Ad b (off+k))=some (.func (.func (g k)) #[] (cb k)):=by
 rcases h with rfl|⟨b,off,h',hc⟩
 · omega
 · exact⟨b,off,h',hc k hk⟩
theorem below_as{w u:World}{t:Nat}(hb:Below w.heap.size w u)(ht:w.heap.size≤t)(o1 o2 o3 o4:Obj)(v:Value):Below w.heap.size w (((((u.alloc o1).alloc o2).alloc o3).alloc o4).setCell (Ad t 0) v):=
 ((((hb.alloc hb.size _).alloc (by have:=hb.size;simp;omega) _).alloc (by have:=hb.size;simp;omega) _).alloc (by have:=hb.size;simp;omega) _).setCell ht _
theorem as_cell{u:World}{t:Nat}{x:Value}(h:u.cell? (Ad t 0)=some x)(o1 o2 o3 o4:Obj)(v:Value):(((((u.alloc o1).alloc o2).alloc o3).alloc o4).setCell (Ad t 0) v).cell? (Ad t 0)=some v:=by
 have h1:=cell_later (Zaa _ o4) (cell_later (Zaa _ o3) (cell_later (Zaa _ o2) (cell_later (Zaa u o1) h)));exact World.cell?_setCell_same' _ _ _ (by rw[h1];rfl)
theorem as_box(e:Int)(w0:World)(B:Nat)(w:World)(hg:GV w)(hx:w.cell? (Ad B 0)=some (Vi 0)∧w.frozen? (Ad B 0)=false)(hb:Below w0.heap.size w0 w)(hB:w0.heap.size≤B):
 Calls prog 101 #[.iface 44 (Vi e),.iface 202 (.pointer (some (Ad B 0)))] w fun ev w'=>ev=.returned (.bool true)∧w'.cell? (Ad B 0)=some (Vi e)∧Below w0.heap.size w0 w':=
 (as_hit e ⟨B,0,none⟩ (Vi 0) w hg hx.1 hx.2).mono fun _ _ h=>⟨h.1,by rw[h.2];exact as_cell hx.1 _ _ _ _ _,by rw[h.2];exact below_as hb hB _ _ _ _ _⟩
theorem Zhz(a:Option Addr)(n cap:Nat)(g:Nat→Nat)(cb:Nat→Array Value)(e:Nat→Int)(hn:n≤1000)(w:World)(hc:Clos w a n g cb)(hg:GV w)
 (hent:∀k,k<n→∀args w,(callFunc (g k) args).run prog w=.ok (.enter (g k) args) w)
 (hcall:∀k,k<n→(∀j,j<k→e j=0)→∀u,Below w.heap.size w u→Calls prog (g k) (cb k) u fun r u'=>r=.returned (errV (e k))∧Below u.heap.size u u'):
 Calls prog 57 #[.slice a n cap] w fun r w'=>r=.returned (errV (fstN e n))∧Below w.heap.size w w':=by
 have HC:=Zab hc;have HG:=Zab hg;have HK:=Zab hcall;have HE:=Zab hent;clear hc hg hcall hent
 go_enter func57,ntmps57
 go_wp2
 go_loopw [8] (fun i wr=>∃k:Nat,k≤n∧i=Vi k∧Hid (∀j,j<k→e j=0)∧Below w.heap.size w wr) (fun i _=>n-(intOf i).toNat)
 case atStart=>exact⟨0,Nat.zero_le _,rfl,Zab (fun j hj=>absurd hj (by omega)),Below.refl _ _⟩
 case round=>
  obtain⟨k,hk,rfl,HZ,hb⟩:=hrel;have HB:=Zab hb
  by_cases hlt:k<n
  · obtain⟨b,off,rfl,hcell⟩:=(HC.out.later hb).at hlt;have hen:=HE.out k hlt;have hB1:=Zac hb (Zaa wr (.cells #[Vi 0] 44));have hca:=HK.out k hlt HZ.out _ hB1;have HZ1:=Zab (fun h=>(fun j hj=>by rcases Nat.lt_or_ge j k with h'|h';exact HZ.out j h';rw[show j=k by omega];exact h:∀j,j<k+1→e j=0));have HF:=Zab (fun h=>fstN_at HZ.out h hlt);have HB1:=Zab hB1;have HX:Hid ((wr.alloc (.cells #[Vi 0] 44)).cell? (Ad wr.heap.size 0)=some (Vi 0)∧(wr.alloc (.cells #[Vi 0] 44)).frozen? (Ad wr.heap.size 0)=false∧wr.heap.size<(wr.alloc (.cells #[Vi 0] 44)).heap.size):=Zab ⟨by simp[go_sem],by simp[go_sem],by simp⟩;clear hb hB1 HZ;generalize g k=gk at *;generalize cb k=ck at*
    by_cases hz:e k=0
    · rw[hz,Zar] at hca;have HZ2:=Zab (HZ1.out hz);clear hz HZ1 HF HX
      go_wp2_with (first
       |(go_at_fn gk;refine hca.mono ?_;rintro r w1 ⟨rfl,hb1⟩;have HB2:=Zab (Zac HB1.out hb1);clear hb1)
       |(go_at_call 101;refine(as_nil _ _).mono ?_;rintro r w2 ⟨rfl,rfl⟩))
      go_roundw
      case rel=>exact⟨k+1,by omega,by go_num,HZ2,HB2.out⟩
      case measure=>simp[intOf];omega
    · rw[Zbg hz] at hca;have HF2:Hid (errV (fstN e n)=.iface 44 (Vi (e k))):=Zab (by rw[HF.out hz,Zbg hz]);have HBL:=Zab HB.out.size;clear hz HZ1 HF;generalize e k=ek at*
      go_wp2_with (first
       |(go_at_fn gk;refine hca.mono ?_;rintro r w1 ⟨rfl,hb1⟩;have HB2:=Zab (Zac HB1.out hb1);have HG1:=Zab (HG.out.later HB2.out);have HX1:Hid (w1.cell? (Ad wr.heap.size 0)=some (Vi 0)∧w1.frozen? (Ad wr.heap.size 0)=false):=Zab ⟨cell_later hb1 HX.out.1,(hb1.frozen (p:=⟨wr.heap.size,0,none⟩) HX.out.2.2).trans HX.out.2.1⟩;clear hb1 hca)
       |(go_at_call 101;refine(as_box ek w wr.heap.size w1 HG1.out HX1.out HB2.out HBL.out).mono ?_;rintro r w2 ⟨rfl,hc2,hb3⟩;have HB3:=Zab hb3;clear hb3))
      go_ret;exact⟨by rw[HF2.out];rfl,HB3.out⟩
  · obtain rfl:k=n:=by omega
    have HF:=Zab (Zel HZ.out);clear hb;go_wp2;go_ret;exact⟨by rw[HF.out,Zar];rfl,HB.out⟩
end Go.Proofs.YtnfdfiholcelaaaGreatDoor
