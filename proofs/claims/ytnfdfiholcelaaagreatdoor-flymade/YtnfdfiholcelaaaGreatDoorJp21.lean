
import Derived.Test.YtnfdfiholcelaaaGreatDoorJp04
import Derived.Test.YtnfdfiholcelaaaGreatDoorJp17
import Derived.Test.YtnfdfiholcelaaaGreatDoorJp20
set_option maxRecDepth 100000
set_option maxHeartbeats 20000000
namespace Go.Proofs.YtnfdfiholcelaaaGreatDoor
open Go.RowKit Plain Tryz
variable {B K O R T V Y Z i j k:Nat}{P:Program}{Q:Exit→Act→World→Prop}{S:FS}{a:Act}{c m:Int}{cs:List Value}{t:TypeId}{u u' w w0:World}{x x0 x1 x10 x11 x12 x13 x14 x2 x3 x4 x5 x6 x7 x8 x9:Value}
def svL:List Sv→List Value
 |[]=>[]
 |s::r=>Vi s.1::Vi s.2.1::.bool s.2.2::svL r
theorem heap_far{b:Nat}(hV:b≠V):∀(vs:List Value) (o:Nat) (u:World),(u.setCells V o vs).heap[b]?=u.heap[b]?
 |[],_,_=>rfl
 |v::r,o,u=>(heap_far hV r (o+1) (u.setCell ⟨V,o,none⟩ v)).trans (heap_setCell_other u ⟨V,o,none⟩ b v hV)
structure FR (K:Nat) (w0 u:World) (B:Nat) (S:FS) (C:CR) (a:Option Addr) (cap:Nat) (l:List Rd) (sv:Nat→List Sv) (G:Nat→Nat):Prop where
 blk:Blk 146 u B (frL S C (.slice a l.length cap))
 rds:Rds u a l
 low:Below K w0 u
 base:K≤B
 far:∀g,a=some (Ad g 0)→l≠[]→g≠B
 servo:∀i,i<2→S.sp i=some (Ad (G i) 0)∧S.sn i=(sv i).length∧Blk 116 u (G i) (svL (sv i))∧K≤G i∧G i≠B∧∀g,a=some (Ad g 0)→l≠[]→g≠G i
 two:G 0≠G 1
 many:l.length≤1000
 oth:∀b,b<w0.heap.size→b≠B→b≠G 0→b≠G 1→u.heap[b]?=w0.heap[b]?
section
variable {K : Nat} {w0 u u' : World} {B : Nat} {S : FS} {C : CR} {a : Option Addr} {cap : Nat} {l : List Rd} {sv : Nat → List Sv} {G : Nat → Nat}
theorem FR.later(h:FR K w0 u B S C a cap l sv G)(hb:Bw u u'):FR K w0 u' B S C a cap l sv G:=
 ⟨h.blk.later hb,h.rds.later hb,h.low.trans (hb.mono (Nat.le_trans h.base (Nat.le_of_lt h.blk.lt))),h.base,h.far,fun i hi=>⟨(h.servo i hi).1,(h.servo i hi).2.1,(h.servo i hi).2.2.1.later hb,(h.servo i hi).2.2.2⟩,h.two,h.many,fun b h1 h2 h3 h4=>(hb.block b (Nat.lt_of_lt_of_le h1 h.low.size)).trans (h.oth b h1 h2 h3 h4)⟩
theorem FR.said(h:FR K w0 u B S C a cap l sv G):Kc u B 62 (.slice a l.length cap):=(h.blk.cell (fr_said S C _)).1
theorem FR.rebase(h:FR K w0 u B S C a cap l sv G):FR K u u B S C a cap l sv G:=⟨h.blk,h.rds,Below.refl _ _,h.base,h.far,h.servo,h.two,h.many,fun _ _ _ _ _=>rfl⟩
theorem FR.lt(h:FR K w0 u B S C a cap l sv G):B<u.heap.size:=h.blk.lt
theorem Xn(hV:∀g,a=some (Ad g 0)→l≠[]→g≠V):∀(vs:List Value) (o:Nat) (u:World),Rds u a l→Rds (u.setCells V o vs) a l
 |[],_,_,h=>h
 |v::r,o,u,h=>Xn hV r (o+1) (u.setCell ⟨V,o,none⟩ v) (Xl hV h)
theorem FR.put(h:FR K w0 u B S C a cap l sv G)(S':FS)(vs:List Value)(o:Nat)(he:putL (frL S C (.slice a l.length cap)) o vs=frL S' C (.slice a l.length cap))(hs:S'.sp=S.sp∧S'.sn=S.sn):FR K w0 (u.setCells B o vs) B S' C a cap l sv G:=
 ⟨he▸Blk.setCells vs o u _ h.blk,Xn h.far vs o u h.rds,Zr vs o u h.low h.base,h.base,h.far,fun i hi=>⟨by rw[hs.1];exact(h.servo i hi).1,by rw[hs.2];exact(h.servo i hi).2.1,Blk.farCells (h.servo i hi).2.2.2.2.1 vs o u (h.servo i hi).2.2.1,(h.servo i hi).2.2.2⟩,h.two,h.many,fun b h1 h2 h3 h4=>(heap_far h2 vs o u).trans (h.oth b h1 h2 h3 h4)⟩
end
def tS(l:List Rd)(x:Int)(k:Nat):Bool:=if k=0 then(smp l x 0).1 else if k=1 then(smp l x 1).1 else(smp l x 2).1
def sS(l:List Rd)(x:Int)(k:Nat):Int:=if k=0 then(smp l x 0).2 else if k=1 then(smp l x 1).2 else(smp l x 2).2
theorem smL_eq(l:List Rd)(x:Int):smL l x=[.bool (tS l x 0),Vi (sS l x 0),.bool (tS l x 1),Vi (sS l x 1),.bool (tS l x 2),Vi (sS l x 2)]:=rfl
def vbk(k:Bk)(m c:Int)(t:Nat→Bool)(s:Nat→Int):Bk:=⟨nbI t k.o s k.b (votI t k.o s k.l) m,noB t k.o s k.b (votI t k.o s k.l) m c,votI t k.o s k.l⟩
theorem Yi{op:Oper}{K:Act→World→Prop}(ty:TypeId)(x y:Operand)(ho:op.op=.store ty x y)(b o:Nat)(cells:Array Value)(hx:a.eval x=.pointer (some (Ad b o)))(hy:a.eval y=.agg cells)(ht:w.there b o cells.size)(hi:(P.info? ty).map (·.size)=some cells.size)(h1:cells.all (·.oneCell')=true)(hd:op.dst=none)(h:K a (w.setCells b o cells.toList)):op.wp P a w K Q:=wp_store_mid ty x y ho b o cells hx hy ht hi h1 (by rw[hd];exact h)
def NB(t:TypeId)(K:Nat)(u:World)(V:Nat)(cs:List Value):Prop:=Blk t u V cs∧K≤V
theorem NB.le(h:NB t K u V cs):K≤V:=h.2
theorem NB.ne{t':TypeId}{K':Nat}{V':Nat}{cs':List Value}(h:NB t K u V cs)(h':NB t' K' u V' cs')(hn:t≠t'):V≠V':=by
 intro e;subst e;have a:=h.1;have b:=h'.1
 unfold Blk at a b
 rw[a] at b
 simp at b
 exact hn b.2
theorem NB.farCells{X:Nat}(hX:V≠X)(vs:List Value)(o:Nat)(h:NB t K u V cs):NB t K (u.setCells X o vs) V cs:=⟨Blk.farCells hX vs o u h.1,h.2⟩
theorem Zj{K:Act→World→Prop}{c:Code}(h:∀a w,Code.wp P c Q a w→K a w)(k:Code.wp P c Q a w):K a w:=h a w k
theorem Xd:(prog.info? 33).map (·.size)=some 7:=by kernel_rfl
theorem infoV2:(prog.info? 187).map (·.size)=some 2:=by kernel_rfl
theorem Zg{o:Nat}(h:w.rangeAt B o cs)(hb:Bw w u):u.rangeAt B o cs:=fun j v hj=>cell_later hb (h j v hj)
theorem Mc{wz:World}{C:CR}{a:Option Addr}{cap:Nat}{l:List Rd}{sv:Nat→List Sv}{G:Nat→Nat}(hf:FR K wz w B S C a cap l sv G)(i:Nat)(hi:i<3)(x m c:Int)(he:Z5 (S.bk i).b (S.bk i).l m c (tS l x) (sS l x)=0):
 Calls prog 102 #[.pointer (some (Ad B 0)),Vi i,Vi x,.agg #[Vi m,Vi c]] w fun e w'=>e=.returned .nilIface∧FR K wz w' B { S with bk:=upd S.bk i (vbk (S.bk i) m c (tS l x) (sS l x)) } C a cap l sv G:=by
 have hst:=step_ok (S.bk i).b (S.bk i).o (S.bk i).l m c (tS l x) (sS l x) he;clear he;obtain⟨vl,HV⟩:∃vl,Hid (votI (tS l x) (S.bk i).o (sS l x) (S.bk i).l=vl):=⟨_,Za rfl⟩;simp only[HV.out] at hst;obtain⟨n0,n1,n2,o0,o1,o2,mn,HE⟩:∃n0 n1 n2 o0 o1 o2 mn,Hid (nbI (tS l x) (S.bk i).o (sS l x) (S.bk i).b vl m 0=n0∧nbI (tS l x) (S.bk i).o (sS l x) (S.bk i).b vl m 1=n1∧nbI (tS l x) (S.bk i).o (sS l x) (S.bk i).b vl m 2=n2∧noB (tS l x) (S.bk i).o (sS l x) (S.bk i).b vl m c 0=o0∧noB (tS l x) (S.bk i).o (sS l x) (S.bk i).b vl m c 1=o1∧noB (tS l x) (S.bk i).o (sS l x) (S.bk i).b vl m c 2=o2∧Zv (tS l x) (S.bk i).o 3=mn):=⟨_,_,_,_,_,_,_,Za ⟨rfl,rfl,rfl,rfl,rfl,rfl,rfl⟩⟩;simp only[HE.out.1,HE.out.2.1,HE.out.2.2.1,HE.out.2.2.2.1,HE.out.2.2.2.2.1,HE.out.2.2.2.2.2.1,HE.out.2.2.2.2.2.2] at hst;have Hp:Hid (bkL (vbk (S.bk i) m c (tS l x) (sS l x))=(Qal n0 n1 n2 vl o0 o1 o2)):=Za (by unfold vbk bkL;simp only[HV.out,HE.out.1,HE.out.2.1,HE.out.2.2.1,HE.out.2.2.2.1,HE.out.2.2.2.2.1,HE.out.2.2.2.2.2.1]);clear HE HV;have HF:=Za (hf.later (Zb w (.cells #[Vi m,Vi c] 124)));have HR:Hid (Blk 124 (w.alloc (.cells #[Vi m,Vi c] 124)) w.heap.size [Vi m,Vi c]):=Za (Blk.new w _ [Vi m,Vi c]);clear hf
 have j0:(0:Int)≤(i:Int):=by omega
 have j1:(i:Int)<3:=by omega
 go_enter func102,ntmps102
 go_upto_region 1 with fail;generalize w.alloc (.cells #[Vi m,Vi c] 124)=w0 at *;generalize w.heap.size=R at *;have HG:=Za (HF.out.blk.sub (i*7) 7);rw[fr_bank S C _ hi] at HG
 have kc:∀u,Bw w0 u→Calls prog 158 #[.pointer (some (Ad B 0)),Vi x] u (Rt u (.agg #[.bool (tS l x 0),Vi (sS l x 0),.bool (tS l x 1),Vi (sS l x 1),.bool (tS l x 2),Vi (sS l x 2)])):=fun u h=>by
  have:=channels_any B a cap l x HF.out.many u (cell_later h HF.out.said) (HF.out.rds.later h)
  rwa[smL_eq] at this
 have r0:=(HR.out.cell (j:=0) rfl).1;have r1:=(HR.out.cell (j:=1) rfl).1;have HI:=Za hi;clear hi HR;refine Cs [13,14,15,16,17,18,19,20,21,22,23,24,12,25,26,27,9,10] ?_;refine Cp 0 13 [] ?_;refine Cp 1 14 [] ?_;refine Cp 2 15 [0] ?_;refine Cp 3 16 [2] ?_;refine Cp 4 17 [3] ?_;refine Cp 5 18 [4,1] ?_;refine Cl (x:=.tmp 18) 6 19 [5] (fun y w hF u hSw=>⟨Zg HG.out hSw,hF.1⟩) underlying33 Xd ?_;refine Cq (fun _ h=>And.intro (cell_later h r0) (cell_later h r1)) 7 20 [] ?_;refine Cp 8 21 [] ?_;refine Cp 9 22 [] ?_;refine Cc 10 23 [8,9] (fun y w h _=>kc _ h) ?_;refine Cc 11 24 [6,7,10] (fun y w h _=>hst _) ?_;refine Cp 12 12 [11] ?_;refine Cp 13 25 [12] ?_;refine Cp 14 26 [12] ?_;refine Cp 15 27 [12] ?_;refine Ca 16 9 ?_;refine Ca 17 10 ?_;refine Cn 3 21 [18,19,20] (fun y u1 hB hf=>?_);obtain⟨XV,e,hA⟩:=hf.1;have Hd:Hid (NB _ _ _ XV [Vi 0,Vi 0]):=Za hA;(try simp only[e]);clear e hA;obtain⟨XA,e,hA⟩:=hf.2.1;have Ha:Hid (NB _ _ _ XA Qbi):=Za hA;(try simp only[e]);clear e hA;have Hh:=Za hB;clear hB hf;refine Ra 18 (fun K hK=>?_);rw[if_pos (by rfl)];refine Yi 33 (.tmp 9) (.tmp 25) rfl XA 0 (Qbp n0 n1 n2 vl o0 o1 o2) rfl rfl (Ha.out.1.there (Nat.le_of_ble_eq_true rfl)) Xd (Zn _ rfl) rfl ?_;have Hk:=Za (Zr (Qal n0 n1 n2 vl o0 o1 o2) 0 u1 Hh.out (NB.le Ha.out));have Hf:Hid (NB 33 w0.heap.size (u1.setCells XA 0 (Qal n0 n1 n2 vl o0 o1 o2)) XA (Qal n0 n1 n2 vl o0 o1 o2)):=Za ⟨Blk.setCells (Qal n0 n1 n2 vl o0 o1 o2) 0 u1 Qbi Ha.out.1,NB.le Ha.out⟩;have Hb:=Za (NB.farCells (NB.ne Hd.out Ha.out (by decide)) (Qal n0 n1 n2 vl o0 o1 o2) 0 Hd.out);generalize hU:World.setCells _ XA 0 _=u2 at *;clear hU;refine hK.out _ _ Hk.out (fun _=>?_);clear hK K;clear Hh Hd Ha;refine Ra 19 (fun K hK=>?_);rw[if_pos (by rfl)];refine Yi 187 (.tmp 10) (.tmp 26) rfl XV 0 #[Vi vl,Vi mn] rfl rfl (Hb.out.1.there (Nat.le_of_ble_eq_true rfl)) infoV2 (Zn _ rfl) rfl ?_
 have Hi:=Za (Zr [Vi vl,Vi mn] 0 u2 Hk.out (NB.le Hb.out));have Hl:Hid (NB 187 w0.heap.size (u2.setCells XV 0 [Vi vl,Vi mn]) XV [Vi vl,Vi mn]):=Za ⟨Blk.setCells [Vi vl,Vi mn] 0 u2 [Vi 0,Vi 0] Hb.out.1,NB.le Hb.out⟩;have Hg:=Za (NB.farCells (NB.ne Hf.out Hb.out (by decide)) [Vi vl,Vi mn] 0 Hf.out);generalize hU:World.setCells _ XV 0 _=u3 at *;clear hU;refine hK.out _ _ Hi.out (fun _=>?_);clear hK K;clear Hk Hb Hf;refine Tq 20 Hi.out ?_;(try simp only[Act.put]);refine Dn ?_;go_simp;have hA:=Hg.out.1;have hB:=Hi.out;clear Hl Hg Hi;generalize u3=v at hA hB⊢;clear r0 r1 kc hst;refine Ek ?_;have Hj:=Za (HF.out.later hB);have Hn:=Za hA;have HX:Hid (XA≠B):=Za (fun e=>by subst e;have a:=hA;have b:=Hj.out.blk;unfold Blk at a b;rw[a] at b;simp at b);clear HF hA hB
 go_upto_region 4 with fail;have HT:Hid (World.there v.drew B (i*7) 7):=Za ((Hj.out.later (Below.refl _ _).drew).blk.there (by rw[frL_len];have:=HI.out;omega));have Ho:Hid (World.rangeAt v.drew XA 0 (Qal n0 n1 n2 vl o0 o1 o2)):=Za ((Hn.out.later (Below.refl _ _).drew).range)
 have Hm:Hid (FR K wz (World.setCells v.drew B (i*7) (Qal n0 n1 n2 vl o0 o1 o2)) B { S with bk:=upd S.bk i (vbk (S.bk i) m c (tS l x) (sS l x)) } C a cap l sv G):=by
  have h:=(Hj.out.later (Below.refl _ _).drew).put { S with bk:=upd S.bk i (vbk (S.bk i) m c (tS l x) (sS l x)) } (bkL (vbk (S.bk i) m c (tS l x) (sS l x))) (i*7) (fr_putBank S C _ HI.out _) ⟨rfl,rfl⟩;rw[Hp.out] at h;exact Za h
 clear Hj Hn;refine wp_region_held_drew (S:=fun u=>u.rangeAt XA 0 (Qal n0 n1 n2 vl o0 o1 o2)) (by kernel_rfl) (Ho.out) (fun _=>?_);have Hc:Hid (v.drew.rangeAt XA 0 (Qal n0 n1 n2 vl o0 o1 o2)):=Za (Ho.out);refine Tq 0 Hc.out ?_;(try simp only[Act.put]);refine Tq 1 Hc.out ?_;(try simp only[Act.put]);refine Tk 2 rfl (yieldsIf_load_mid (by rfl) 33 (.tmp 9) rfl XA 0 rfl (Qal n0 n1 n2 vl o0 o1 o2) _ (fun w hSw=>hSw) underlying33 rfl Xd) Hc.out ?_;(try simp only[Act.put]);refine Tq 3 Hc.out ?_;(try simp only[Act.put]);refine Tq 4 Hc.out ?_;(try simp only[Act.put]);refine Tq 5 Hc.out ?_;(try simp only[Act.put]);refine Tq 6 Hc.out ?_;(try simp only[Act.put]);simp only[Ly];refine Ra 7 (fun K hK=>?_);rw[if_pos (by rfl)];refine Yi 33 (.tmp 37) (.tmp 33) rfl B (i*7) (Qbp n0 n1 n2 vl o0 o1 o2) rfl rfl (HT.out) Xd (Zn _ rfl) rfl ?_;have Hh:=Za (World.rangeAt_setCells_apart Hc.out B (i*7) (Qal n0 n1 n2 vl o0 o1 o2) (.inl HX.out));refine hK.out _ _ Hh.out (fun _=>?_);clear hK K;refine Dn ?_;go_simp;refine Ek ?_;go_wp2_with fail;go_ret;exact⟨rfl,Hm.out⟩
theorem W6(hV:B≠V):∀(vs:List Value) (o:Nat) (u:World),Kc u B j x→(u.setCells V o vs).cell? (Ad B j)=some x
 |[],_,_,h=>h
 |v::r,o,u,h=>W6 hV r (o+1) (u.setCell ⟨V,o,none⟩ v) (Xx hV h)
def BQ(w u:World)(T R Y:Nat)(S:FS)(m c:Int):Prop:=Blk 41 u T (stL S)∧Blk 124 u R [Vi m,Vi c]∧Blk 33 u Y Qbi∧Bw w u∧w.heap.size≤Y
theorem BQ.later(h:BQ w u T R Y S m c)(hb:Bw u u'):BQ w u' T R Y S m c:=⟨h.1.later hb,h.2.1.later hb,h.2.2.1.later hb,Zc h.2.2.2.1 hb,h.2.2.2.2⟩
theorem BQ.far(h:BQ w u T R Y S m c)(hV:T≠V∧R≠V∧Y≠V∧w.heap.size≤V)(j:Nat)(v:Value):BQ w (u.setCell (Ad V j) v) T R Y S m c:=
 ⟨h.1.far hV.1 j v,h.2.1.far hV.2.1 j v,h.2.2.1.far hV.2.2.1 j v,h.2.2.2.1.setCell (by simpa using hV.2.2.2) v,h.2.2.2.2⟩
theorem res_bank(tmps:Array Value)(U:World)(Y:Nat)(cs:List Value)(x:Value)(h2:tmps.getD 10 undef=.pointer (some (Ad Y 0)))(h5:tmps.getD 11 undef=x)(hR:U.rangeAt Y 0 cs)(hn:cs.length=7):
 (results Tryz.f48 tmps).run prog U=.ok (.tuple #[.agg cs.toArray,x]) U:=by
 have h3:tmps[10]?.getD undef=.pointer (some (Ad Y 0)):=by simpa using h2
 have h4:tmps[11]?.getD undef=x:=by simpa using h5
 simp[results,results48,h3,h4,asAddr,run_loadVar_mid U Y 0 33 cs _ hR underlying33 rfl (by rw[Xd,hn])]
theorem refbank_any(S:FS)(i:Nat)(hi:i<3)(m c:Int)(a:Option Addr)(cap:Nat)(l:List Rd)(x:Int)(hl:l.length≤1000)(he:Z5 (S.bk i).b (S.bk i).l m c (tS l x) (sS l x)=0)(w:World)(hr:Rds w a l):
 Calls prog 48 #[.agg (stL S).toArray,Vi i,.agg #[Vi m,Vi c],.slice a l.length cap,Vi x] w (Rt w (.tuple #[.agg (bkL (vbk (S.bk i) m c (tS l x) (sS l x))).toArray,Vi (vbk (S.bk i) m c (tS l x) (sS l x)).l])):=by
 have hvt:=voted_any (S.bk i).b (S.bk i).o (S.bk i).l m c (tS l x) (sS l x) (fit_of (sampE_of he)) (bankE_of he) (lastE_of he).1 (lastE_of he).2 (ruleE_of he).1.1 (ruleE_of he).1.2;clear he;obtain⟨vl,HV⟩:∃vl,Hid (votI (tS l x) (S.bk i).o (sS l x) (S.bk i).l=vl):=⟨_,Za rfl⟩;simp only[HV.out] at hvt;obtain⟨n0,n1,n2,o0,o1,o2,mn,HE⟩:∃n0 n1 n2 o0 o1 o2 mn,Hid (nbI (tS l x) (S.bk i).o (sS l x) (S.bk i).b vl m 0=n0∧nbI (tS l x) (S.bk i).o (sS l x) (S.bk i).b vl m 1=n1∧nbI (tS l x) (S.bk i).o (sS l x) (S.bk i).b vl m 2=n2∧noB (tS l x) (S.bk i).o (sS l x) (S.bk i).b vl m c 0=o0∧noB (tS l x) (S.bk i).o (sS l x) (S.bk i).b vl m c 1=o1∧noB (tS l x) (S.bk i).o (sS l x) (S.bk i).b vl m c 2=o2∧Zv (tS l x) (S.bk i).o 3=mn):=⟨_,_,_,_,_,_,_,Za ⟨rfl,rfl,rfl,rfl,rfl,rfl,rfl⟩⟩;simp only[HE.out.1,HE.out.2.1,HE.out.2.2.1,HE.out.2.2.2.1,HE.out.2.2.2.2.1,HE.out.2.2.2.2.2.1,HE.out.2.2.2.2.2.2] at hvt;have Hv:Hid (bkL (vbk (S.bk i) m c (tS l x) (sS l x))=(Qal n0 n1 n2 vl o0 o1 o2)∧(vbk (S.bk i) m c (tS l x) (sS l x)).l=vl):=Za (by unfold vbk bkL;simp only[HV.out,HE.out.1,HE.out.2.1,HE.out.2.2.1,HE.out.2.2.2.1,HE.out.2.2.2.2.1,HE.out.2.2.2.2.2.1,and_self]);clear HE HV
 have Hp:Hid (BQ w ((((w.alloc (.cells (stL S).toArray 41)).alloc (.cells #[Vi m,Vi c] 124)).alloc (.cells Qay 33)).alloc (.cells Qaz 185)) w.heap.size (w.heap.size+1) (w.heap.size+1+1) S m c):=Za ⟨(((Blk.new w _ (stL S)).later (Zb _ _)).later (Zb _ _)).later (Zb _ _),by
  have:=Blk.new (w.alloc (.cells (stL S).toArray 41)) 124 [Vi m,Vi c];rw[World.size_alloc] at this;exact(this.later (Zb _ _)).later (Zb _ _),by
  have:=Blk.new ((w.alloc (.cells (stL S).toArray 41)).alloc (.cells #[Vi m,Vi c] 124)) 33 Qbi;rw[World.size_alloc,World.size_alloc] at this;exact this.later (Zb _ _),Zc (Zc (Zc (Zb _ _) (Zb _ _)) (Zb _ _)) (Zb _ _),by omega⟩
 have Hw:Hid (Blk 185 ((((w.alloc (.cells (stL S).toArray 41)).alloc (.cells #[Vi m,Vi c] 124)).alloc (.cells Qay 33)).alloc (.cells Qaz 185)) (w.heap.size+1+1+1) Qbl):=Za (by have:=Blk.new (((w.alloc (.cells (stL S).toArray 41)).alloc (.cells #[Vi m,Vi c] 124)).alloc (.cells Qay 33)) 185 Qbl;rw[World.size_alloc,World.size_alloc,World.size_alloc] at this;exact this);have Hq:=Za (hr.later Hp.out.2.2.2.1);have HP:Hid (∀g,a=some (Ad g 0)→l≠[]→g≠w.heap.size+1+1+1):=Za (fun g hg hn=>by have:=hr.lt g hg hn;omega);have HN:Hid (w.heap.size≠w.heap.size+1+1+1∧w.heap.size+1≠w.heap.size+1+1+1∧w.heap.size+1+1≠w.heap.size+1+1+1∧w.heap.size≤w.heap.size+1+1+1):=Za (by omega);clear hr
 go_enter func48,ntmps48
 go_upto_region 2 with fail;generalize ((((w.alloc (.cells (stL S).toArray 41)).alloc (.cells #[Vi m,Vi c] 124)).alloc (.cells Qay 33)).alloc (.cells Qaz 185))=w0 at *;generalize w.heap.size+1+1+1=I at *;generalize w.heap.size+1+1=Y at *;generalize w.heap.size+1=R at *;go_wp2_with fail;refine wp_loop_rounds 4 ?_;rw[rounds_succ]
 go_wp2_with (first
  |(go_at_call 52;refine Sb (Ul a cap l x 0 hl _ Hq.out) fun u0 hb=>?_;have Hd:=Za (Hp.out.later hb);have Ha:=Za (Hw.out.later hb);have Hf:=Za (Hq.out.later hb);have q0:=(Ha.out.cell (j:=0) rfl).1;have q1:=(Ha.out.cell (j:=1) rfl).1;have f0:=(Ha.out.cell (j:=0) rfl).2;have f1:=(Ha.out.cell (j:=1) rfl).2;clear hb Hq Hw Hp))
 have Hx:Hid (Blk 185 ((u0.setCell (Ad I 0) (.bool (smp l x 0).1)).setCell (Ad I 1) (Vi (smp l x 0).2)) I [.bool (smp l x 0).1,Vi (smp l x 0).2,.bool false,Vi 0,.bool false,Vi 0]):=Za ((Ha.out.set 0 (.bool (smp l x 0).1)).set 1 (Vi (smp l x 0).2));have Hy:=Za ((Hd.out.far HN.out 0 (.bool (smp l x 0).1)).far HN.out 1 (Vi (smp l x 0).2));have Hr:=Za (Xl HP.out (Xl HP.out Hf.out (j:=0) (v:=.bool (smp l x 0).1)) (j:=1) (v:=Vi (smp l x 0).2));clear q0 q1 f0 f1 Ha Hd Hf;generalize (u0.setCell (Ad I 0) (.bool (smp l x 0).1)).setCell (Ad I 1) (Vi (smp l x 0).2)=w1 at *;rw[rounds_succ]
 go_wp2_with (first
  |(go_at_call 52;refine Sb (Ul a cap l x 1 hl _ Hr.out) fun u1 hb=>?_;have Hd:=Za (Hy.out.later hb);have Ha:=Za (Hx.out.later hb);have Hf:=Za (Hr.out.later hb);have q0:=(Ha.out.cell (j:=2) rfl).1;have q1:=(Ha.out.cell (j:=3) rfl).1;have f0:=(Ha.out.cell (j:=2) rfl).2;have f1:=(Ha.out.cell (j:=3) rfl).2;clear hb Hr Hx Hy))
 have Hz:Hid (Blk 185 ((u1.setCell (Ad I 2) (.bool (smp l x 1).1)).setCell (Ad I 3) (Vi (smp l x 1).2)) I [.bool (smp l x 0).1,Vi (smp l x 0).2,.bool (smp l x 1).1,Vi (smp l x 1).2,.bool false,Vi 0]):=Za ((Ha.out.set 2 (.bool (smp l x 1).1)).set 3 (Vi (smp l x 1).2));have HA:=Za ((Hd.out.far HN.out 2 (.bool (smp l x 1).1)).far HN.out 3 (Vi (smp l x 1).2));have Hs:=Za (Xl HP.out (Xl HP.out Hf.out (j:=2) (v:=.bool (smp l x 1).1)) (j:=3) (v:=Vi (smp l x 1).2));clear q0 q1 f0 f1 Ha Hd Hf;generalize (u1.setCell (Ad I 2) (.bool (smp l x 1).1)).setCell (Ad I 3) (Vi (smp l x 1).2)=w2 at *;rw[rounds_succ]
 go_wp2_with (first
  |(go_at_call 52;refine Sb (Ul a cap l x 2 hl _ Hs.out) fun u2 hb=>?_;have Hd:=Za (HA.out.later hb);have Ha:=Za (Hz.out.later hb);have Hf:=Za (Hs.out.later hb);have q0:=(Ha.out.cell (j:=4) rfl).1;have q1:=(Ha.out.cell (j:=5) rfl).1;have f0:=(Ha.out.cell (j:=4) rfl).2;have f1:=(Ha.out.cell (j:=5) rfl).2;clear hb Hs Hz HA))
 have Hg:Hid (Blk 185 ((u2.setCell (Ad I 4) (.bool (smp l x 2).1)).setCell (Ad I 5) (Vi (smp l x 2).2)) I [.bool (smp l x 0).1,Vi (smp l x 0).2,.bool (smp l x 1).1,Vi (smp l x 1).2,.bool (smp l x 2).1,Vi (smp l x 2).2]):=Za ((Ha.out.set 4 (.bool (smp l x 2).1)).set 5 (Vi (smp l x 2).2));have Hj:=Za ((Hd.out.far HN.out 4 (.bool (smp l x 2).1)).far HN.out 5 (Vi (smp l x 2).2));have HH:=Za (Xl HP.out (Xl HP.out Hf.out (j:=4) (v:=.bool (smp l x 2).1)) (j:=5) (v:=Vi (smp l x 2).2));clear q0 q1 f0 f1 Ha Hd Hf;generalize (u2.setCell (Ad I 4) (.bool (smp l x 2).1)).setCell (Ad I 5) (Vi (smp l x 2).2)=w3 at *;rw[rounds_succ]
 go_upto_region 6 with fail;have HG:=Za (Hj.out.1.sub (i*7) 7);rw[st_bank S hi] at HG;have r0:=(Hj.out.2.1.cell (j:=0) rfl).1;have r1:=(Hj.out.2.1.cell (j:=1) rfl).1;have y0:w3.cell? (Ad I 0)=some (.bool (tS l x 0)):=(Hg.out.cell (j:=0) rfl).1;have y1:w3.cell? (Ad I 1)=some (Vi (sS l x 0)):=(Hg.out.cell (j:=1) rfl).1;have y2:w3.cell? (Ad I 2)=some (.bool (tS l x 1)):=(Hg.out.cell (j:=2) rfl).1;have y3:w3.cell? (Ad I 3)=some (Vi (sS l x 1)):=(Hg.out.cell (j:=3) rfl).1;have y4:w3.cell? (Ad I 4)=some (.bool (tS l x 2)):=(Hg.out.cell (j:=4) rfl).1;have y5:w3.cell? (Ad I 5)=some (Vi (sS l x 2)):=(Hg.out.cell (j:=5) rfl).1;clear Hg HH HP HN
 have j0:(0:Int)≤(i:Int):=by omega
 have j1:(i:Int)<3:=by omega
 clear hi hl;refine Cs [28,29,30,31,32,33,34,27,35,36,14,15] ?_;refine Cp 0 28 [] ?_;refine Cp 1 29 [] ?_;refine Cp 2 30 [1,0] ?_;refine Cl (x:=.tmp 30) 3 31 [2] (fun y w hF u hSw=>⟨Zg HG.out hSw,hF.1⟩) underlying33 Xd ?_;refine Cq (fun _ h=>And.intro (cell_later h r0) (cell_later h r1)) 4 32 [] ?_;refine Cq (fun _ h=>And.intro (cell_later h y0) (And.intro (cell_later h y1) (And.intro (cell_later h y2) (And.intro (cell_later h y3) (And.intro (cell_later h y4) (cell_later h y5)))))) 5 33 [] ?_;refine Cc 6 34 [3,4,5] (fun y w h _=>hvt _) ?_;refine Cp 7 27 [6] ?_;refine Cp 8 35 [7] ?_;refine Cp 9 36 [7] ?_;refine Ca 10 14 ?_;refine Ca 11 15 ?_;refine Cn 2 14 [12,13] (fun y u1 hB hf=>?_);obtain⟨XV,e,hA⟩:=hf.1;have Hh:Hid (NB _ _ _ XV [Vi 0,Vi 0]):=Za hA;(try simp only[e]);clear e hA;obtain⟨XA,e,hA⟩:=hf.2.1;have Hb:Hid (NB _ _ _ XA Qbi):=Za hA;(try simp only[e]);clear e hA;have Hk:=Za hB;clear hB hf;refine Ra 12 (fun K hK=>?_);rw[if_pos (by rfl)];refine Yi 33 (.tmp 14) (.tmp 35) rfl XA 0 (Qbp n0 n1 n2 vl o0 o1 o2) rfl rfl (Hb.out.1.there (Nat.le_of_ble_eq_true rfl)) Xd (Zn _ rfl) rfl ?_;have Ht:=Za (Zr (Qal n0 n1 n2 vl o0 o1 o2) 0 u1 Hk.out (NB.le Hb.out));have Hi:Hid (NB 33 w3.heap.size (u1.setCells XA 0 (Qal n0 n1 n2 vl o0 o1 o2)) XA (Qal n0 n1 n2 vl o0 o1 o2)):=Za ⟨Blk.setCells (Qal n0 n1 n2 vl o0 o1 o2) 0 u1 Qbi Hb.out.1,NB.le Hb.out⟩;have Hc:=Za (NB.farCells (NB.ne Hh.out Hb.out (by decide)) (Qal n0 n1 n2 vl o0 o1 o2) 0 Hh.out);generalize hU:World.setCells _ XA 0 _=u2 at *;clear hU;refine hK.out _ _ Ht.out (fun _=>?_);clear hK K;clear Hk Hh Hb;refine Ra 13 (fun K hK=>?_);rw[if_pos (by rfl)];refine Yi 187 (.tmp 15) (.tmp 36) rfl XV 0 #[Vi vl,Vi mn] rfl rfl (Hc.out.1.there (Nat.le_of_ble_eq_true rfl)) infoV2 (Zn _ rfl) rfl ?_;have Hu:=Za (Zr [Vi vl,Vi mn] 0 u2 Ht.out (NB.le Hc.out))
 have Hl:Hid (NB 187 w3.heap.size (u2.setCells XV 0 [Vi vl,Vi mn]) XV [Vi vl,Vi mn]):=Za ⟨Blk.setCells [Vi vl,Vi mn] 0 u2 [Vi 0,Vi 0] Hc.out.1,NB.le Hc.out⟩;have Hm:=Za (NB.farCells (NB.ne Hi.out Hc.out (by decide)) [Vi vl,Vi mn] 0 Hi.out);generalize hU:World.setCells _ XV 0 _=u3 at *;clear hU;refine hK.out _ _ Hu.out (fun _=>?_);clear hK K;clear Ht Hc Hi;refine Dn ?_;go_simp;have hA:=Hm.out;have hV:=Hl.out;have hB:=Hu.out;clear Hl Hm Hu;generalize u3=v at hA hV hB⊢;clear r0 r1 y0 y1 y2 y3 y4 y5 hvt;refine Ek ?_;have Ho:=Za (Hj.out.later hB);have HX:Hid (XA≠Y∧XV≠Y):=Za (by have:=Hj.out.2.2.1.lt;have:=NB.le hA;have:=NB.le hV;omega);have HC:=Za hA;have HD:=Za hV;clear hA hV hB Hj
 go_upto_region 7 with fail;have HT:Hid (World.there v.drew Y 0 7):=Za ((Ho.out.2.2.1.later (Below.refl _ _).drew).there (Nat.le_of_ble_eq_true rfl));have HF:Hid (World.rangeAt v.drew XA 0 (Qal n0 n1 n2 vl o0 o1 o2)∧World.cell? v.drew ⟨XV,0,none⟩=some (Vi vl)):=Za ⟨(HC.out.1.later (Below.refl _ _).drew).range,((HD.out.1.later (Below.refl _ _).drew).cell (j:=0) rfl).1⟩;have HR:Hid (World.rangeAt (World.setCells v.drew Y 0 (Qal n0 n1 n2 vl o0 o1 o2)) Y 0 (Qal n0 n1 n2 vl o0 o1 o2)):=Za (World.rangeAt_setCells_same _ _ _ _ HT.out);have HB:Hid (Bw w (World.setCells v.drew Y 0 (Qal n0 n1 n2 vl o0 o1 o2))):=Za (Zr (Qal n0 n1 n2 vl o0 o1 o2) 0 v.drew (Ho.out.2.2.2.1.drew) Ho.out.2.2.2.2);clear HC HD Ho;refine wp_region_held_drew (S:=fun u=>(u.rangeAt XA 0 (Qal n0 n1 n2 vl o0 o1 o2)∧Kc u XV 0 (Vi vl))) (by kernel_rfl) (HF.out) (fun _=>?_);have Hn:Hid ((v.drew.rangeAt XA 0 (Qal n0 n1 n2 vl o0 o1 o2)∧v.drew.cell? (Ad XV 0)=some (Vi vl))):=Za (HF.out);refine Tk 0 rfl (yieldsIf_load_mid (by rfl) 33 (.tmp 14) rfl XA 0 rfl (Qal n0 n1 n2 vl o0 o1 o2) _ (fun w hSw=>hSw.1) underlying33 rfl Xd) Hn.out ?_;(try simp only[Act.put]);refine Tq 1 Hn.out ?_;(try simp only[Act.put]);refine Th 2 rfl (by intro w hSw;(try dsimp only at hSw);have y:=hSw.2;clear hSw;go_simp;(try with_reducible rfl)) Hn.out ?_;(try simp only[Act.put]);simp only[Ly];refine Ra 3 (fun K hK=>?_);rw[if_pos (by rfl)];refine Yi 33 (.tmp 10) (.tmp 37) rfl Y (0) (Qbp n0 n1 n2 vl o0 o1 o2) rfl rfl (HT.out) Xd (Zn _ rfl) rfl ?_;have Hk:=Za (And.intro (World.rangeAt_setCells_apart Hn.out.1 Y 0 (Qal n0 n1 n2 vl o0 o1 o2) (.inl HX.out.1)) (W6 HX.out.2 (Qal n0 n1 n2 vl o0 o1 o2) 0 _ Hn.out.2));refine hK.out _ _ Hk.out (fun _=>?_);clear hK K;refine Tq 4 Hk.out ?_;(try simp only[Act.put]);refine Dn ?_;go_simp;refine Ek ?_;go_wp2_with fail
 refine bodyPost_ret (v:=.tuple #[.agg (Qbp n0 n1 n2 vl o0 o1 o2),Vi vl]) (res_bank _ _ Y (Qal n0 n1 n2 vl o0 o1 o2) _ rfl rfl HR.out rfl) rfl ⟨by rw[Hv.out.1,Hv.out.2],HB.out⟩
def sndU(l:List Sv):Nat→Int
 |0=>0
 |k+1=>if(svAt l k).2.2 then sndU l k else sndU l k+1
theorem sndU_bd(l:List Sv):∀k:Nat,0≤sndU l k∧sndU l k≤k
 |0=>by simp[sndU]
 |k+1=>by have:=sndU_bd l k;simp only[sndU];split<;>omega
theorem sound_any(l:List Sv)(a:Option Addr)(cap:Nat)(hl:l.length≤1000)(w:World)(hv:VLs w a l):
 Calls prog 132 #[.slice a l.length cap] w (Rt w (Vi (sndU l l.length))):=by
 have HV:=Za hv;clear hv
 go_enter func132,ntmps132
 go_wp2
 go_loopw [3,8] (fun s i wr=>∃k:Nat,k≤l.length∧i=Vi k∧s=Vi (sndU l k)∧Bw w wr) (fun _ i _=>l.length-(intOf i).toNat)
 case atStart=>exact⟨0,Nat.zero_le _,rfl,rfl,Below.refl _ _⟩
 case round=>
  obtain⟨k,hk,rfl,rfl,hb⟩:=hrel;have hbd:=sndU_bd l k
  by_cases hlt:k<l.length
  · obtain⟨bl,ol,rfl,d0,d1,d2⟩:=(HV.out.later hb).at hlt;have HS:=Za (show sndU l (k+1)=if(svAt l k).2.2 then sndU l k else sndU l k+1 from rfl);have HB:=Za hb
    have j0:(0:Int)≤(k:Int):=by omega
    have j1:(k:Int)<(l.length:Int):=by omega
    clear hb;generalize sndU l k=s at *;generalize (svAt l k).1=i at *;generalize (svAt l k).2.1=b at *;generalize (svAt l k).2.2=o at*
    cases o
    · go_wp2;go_roundw
      case rel=>exact⟨k+1,by omega,by go_num,by rw[HS.out];rfl,Zc HB.out (Zb _ _)⟩
      case measure=>simp[intOf];omega
    · go_wp2;go_roundw
      case rel=>exact⟨k+1,by omega,by go_num,by rw[HS.out];rfl,Zc HB.out (Zb _ _)⟩
      case measure=>simp[intOf];omega
  · have e:k=l.length:=by omega
    subst e;go_wp2;go_ret;exact⟨rfl,hb⟩
theorem Nw(f i k:Int)(hf:0≤f∧f≤1000)(hi:0≤i∧i≤10)(hk:0≤k∧k≤1000)(w:World):
 Calls prog 108 #[Vi f,Vi i,Vi k] w (Re w (Vi (f+4*i+k))):=by
 obtain⟨f0,f1⟩:=hf;obtain⟨i0,i1⟩:=hi;obtain⟨k0,k1⟩:=hk
 go_enter func108,ntmps108
 go_wp2;go_ret;exact⟨rfl,rfl⟩
theorem status_any(i b:Int)(o:Bool)(w:World):
 Calls prog 175 #[.agg #[Vi i,Vi b,.bool o]] w (Rt w (Vi (if o then 0 else 3))):=by
 cases o
 · go_enter func175,ntmps175
   go_wp2;go_ret;exact⟨rfl,Zb _ _⟩
 · go_enter func175,ntmps175
   go_wp2;go_ret;exact⟨rfl,Zb _ _⟩
theorem putL_cons(a:Value):∀(vs:List Value) (cs:List Value) (o:Nat),putL (a::cs) (o+1) vs=a::putL cs o vs
 |[],_,_=>rfl
 |v::r,cs,o=>by
  show putL ((a::cs).set (o+1) v) (o+1+1) r=a::putL (cs.set o v) (o+1) r
  rw[List.set_cons_succ];exact putL_cons a r (cs.set o v) (o+1)
theorem Wg:∀L:List Sv,(svL L).length=L.length*3
 |[]=>rfl
 |s::r=>by simp only[svL,List.length_cons,Wg r];omega
theorem svL_at:∀(L:List Sv) (k:Nat),k<L.length→((svL L).drop (k*3)).take 3=[Vi (svAt L k).1,Vi (svAt L k).2.1,.bool (svAt L k).2.2]
 |[],_,h=>by simp at h
 |s::r,0,_=>rfl
 |s::r,k+1,h=>by
  have:=svL_at r k (by simpa using h);rw[show(k+1)*3=k*3+1+1+1 by omega]
  simpa[svL,svAt] using this
theorem svL_put(s:Sv):∀(L:List Sv) (k:Nat),k<L.length→putL (svL L) (k*3) [Vi s.1,Vi s.2.1,.bool s.2.2]=svL (L.set k s)
 |[],_,h=>by simp at h
 |x::r,0,_=>rfl
 |x::r,k+1,h=>by
  have:=svL_put s r k (by simpa using h);rw[show(k+1)*3=k*3+1+1+1 by omega];simp only[svL,putL_cons,this,List.set_cons_succ]
theorem blk_vls{g:Nat}{L:List Sv}(h:Blk t u g (svL L)):VLs u (some (Ad g 0)) L:=by
 refine .inr ⟨g,0,rfl,fun k hk=>?_⟩;have r:=h.sub (k*3) 3;rw[svL_at L k hk] at r;have r0:=r 0 _ rfl;have r1:=r 1 _ rfl;have r2:=r 2 _ rfl;simp only[Nat.zero_add];exact⟨r0,r1,r2⟩
section
variable {K : Nat} {w0 u : World} {B : Nat} {S : FS} {C : CR} {a : Option Addr} {cap : Nat} {l : List Rd} {sv : Nat → List Sv} {G : Nat → Nat}
theorem FR.vls(h:FR K w0 u B S C a cap l sv G)(hi:i<2):VLs u (S.sp i) (sv i):=by
 have:=h.servo i hi;rw[this.1];exact blk_vls this.2.2.1
theorem FR.putServo(h:FR K w0 u B S C a cap l sv G)(hi:i<2)(hk:k<(sv i).length)(s:Sv):FR K w0 (u.setCells (G i) (k*3) [Vi s.1,Vi s.2.1,.bool s.2.2]) B S C a cap l (upd sv i ((sv i).set k s)) G:=by
 have hs:=h.servo i hi;refine⟨Blk.farCells hs.2.2.2.2.1.symm _ _ _ h.blk,Xn hs.2.2.2.2.2 _ _ _ h.rds,Zr _ _ _ h.low hs.2.2.2.1,h.base,h.far,fun j hj=>?_,h.two,h.many,fun b h1 h2 h3 h4=>(heap_far (show b≠G i by rcases Qtw i with rfl|rfl<;>assumption) _ _ _).trans (h.oth b h1 h2 h3 h4)⟩;have hsj:=h.servo j hj
 by_cases e:j=i
 · subst e;rw[Zp];exact⟨hsj.1,by rw[List.length_set];exact hsj.2.1,svL_put s (sv j) k hk▸Blk.setCells _ _ _ _ hsj.2.2.1,hsj.2.2.2⟩
 · rw[Yn sv _ e]
   have hG:G j≠G i:=by
    have:=h.two
    rcases(show(j=0∧i=1)∨(j=1∧i=0) by omega) with⟨rfl,rfl⟩|⟨rfl,rfl⟩
    · exact this
    · exact this.symm
   exact⟨hsj.1,hsj.2.1,Blk.farCells hG _ _ _ hsj.2.2.1,hsj.2.2.2⟩
end
def wv(C:CR)(l:List Rd)(i k:Nat)(s:Sv):Sv:=
 (wI (C.a i 7) (C.a i 10) s.1 s.2.1 (smp l (16+4*(i:Int)+(k:Int)) 3).2 s.2.2 (smp l (16+4*(i:Int)+(k:Int)) 3).1,wB (C.a i 7) s.1 s.2.1 (smp l (16+4*(i:Int)+(k:Int)) 3).2 s.2.2 (smp l (16+4*(i:Int)+(k:Int)) 3).1,wO (C.a i 7) (C.a i 10) s.1 s.2.1 (smp l (16+4*(i:Int)+(k:Int)) 3).2 s.2.2 (smp l (16+4*(i:Int)+(k:Int)) 3).1)
def wml(C:CR)(l:List Rd)(i:Nat)(L:List Sv)(k:Nat):List Sv:=(List.range L.length).map fun j=>if j<k then wv C l i j (svAt L j) else svAt L j
theorem Ws(C:CR)(l:List Rd)(i:Nat)(L:List Sv)(k:Nat):(wml C l i L k).length=L.length:=by simp[wml]
theorem wml_zero(C:CR)(l:List Rd)(i:Nat)(L:List Sv):wml C l i L 0=L:=by
 apply List.ext_getElem
 · simp[wml]
 · intro j h1 h2
   simp[wml,svAt,h2]
theorem wml_at(C:CR)(l:List Rd)(i:Nat)(L:List Sv)(hk:k<L.length):svAt (wml C l i L k) k=svAt L k:=by
 simp[wml,svAt,hk]
theorem wml_step(C:CR)(l:List Rd)(i:Nat)(L:List Sv):(wml C l i L k).set k (wv C l i k (svAt L k))=wml C l i L (k+1):=by
 apply List.ext_getElem
 · simp[wml]
 · intro j h1 h2;simp only[wml,List.length_set,List.length_map,List.length_range] at h1;rw[List.getElem_set]
   by_cases e:k=j
   · subst e
     simp[wml]
   · rw[if_neg e];simp only[wml,List.getElem_map,List.getElem_range]
     by_cases h3:j<k
     · rw[if_pos h3,if_pos (by omega)]
     · rw[if_neg h3,if_neg (by omega)]
def FZ(w0 w:World)(O Z:Nat)(a:Option Addr)(l:List Int)(cap n:Nat)(x:Nat→Value)(G:List (Addr×Value)):Prop:=
 Dc w O a l cap n∧AxV w Z x∧DK O w0 w∧(O<w0.heap.size∧w0.heap.size≤Z∧RawAt a l w0.heap.size)∧∀q∈G,w.cell? q.1=some q.2∧w0.heap.size≤q.1.block∧q.1.block≠Z
theorem FZ.put{a l cap n x G}(h:FZ w0 w O Z a l cap n x G)(k:Nat)(y:Value):FZ w0 (w.setCell (Ad Z k) y) O Z a l cap n (updV x k y) G:=by
 obtain⟨h1,h2,h3,⟨h4,h5,h6⟩,h7⟩:=h;exact⟨h1.set (by omega) (fun b off e hl=>by have:=h6 b off e hl;omega),h2.put k y,h3.sets rfl (by omega),⟨h4,h5,h6⟩,fun q hq=>⟨gset (h7 q hq).1 (h7 q hq).2.2,(h7 q hq).2⟩⟩
theorem below_eq{w':World}{o:Obj}(h:w'=w.alloc o):Bw w w':=by rw[h];exact Zb _ _
theorem fin15{a l cap n v G}(h:AXS w0 w O Z B a l cap n v G):∃U,U=(((((((((((((((w.setCell (Ad Z 0) (v 0)).setCell (Ad Z 1) (v 1)).setCell (Ad Z 2) (v 2)).setCell (Ad Z 3) (v 3)).setCell (Ad Z 4) (v 4)).setCell (Ad Z 5) (v 5)).setCell (Ad Z 6) (v 6)).setCell (Ad Z 7) (v 7)).setCell (Ad Z 8) (v 8)).setCell (Ad Z 9) (v 9)).setCell (Ad Z 10) (v 10)).setCell (Ad Z 11) (v 11)).setCell (Ad Z 12) (v 12)).setCell (Ad Z 13) (v 13)).setCell (Ad Z 14) (v 14))∧(∀j,j<15→U.cell? (Ad Z j)=some (v j))∧Dc U O a l cap n∧DK O w0 U∧∀q∈G,U.cell? q.1=some q.2∧w0.heap.size≤q.1.block∧q.1.block≠Z:=by
 have k:FZ w0 ((((((((((((((((w.setCell (Ad Z 0) (v 0)).setCell (Ad Z 1) (v 1)).setCell (Ad Z 2) (v 2)).setCell (Ad Z 3) (v 3)).setCell (Ad Z 4) (v 4)).setCell (Ad Z 5) (v 5)).setCell (Ad Z 6) (v 6)).setCell (Ad Z 7) (v 7)).setCell (Ad Z 8) (v 8)).setCell (Ad Z 9) (v 9)).setCell (Ad Z 10) (v 10)).setCell (Ad Z 11) (v 11)).setCell (Ad Z 12) (v 12)).setCell (Ad Z 13) (v 13)).setCell (Ad Z 14) (v 14))) O Z a l cap n ((updV (updV (updV (updV (updV (updV (updV (updV (updV (updV (updV (updV (updV (updV (updV zV 0 (v 0)) 1 (v 1)) 2 (v 2)) 3 (v 3)) 4 (v 4)) 5 (v 5)) 6 (v 6)) 7 (v 7)) 8 (v 8)) 9 (v 9)) 10 (v 10)) 11 (v 11)) 12 (v 12)) 13 (v 13)) 14 (v 14))) G:=
  (FZ.put (FZ.put (FZ.put (FZ.put (FZ.put (FZ.put (FZ.put (FZ.put (FZ.put (FZ.put (FZ.put (FZ.put (FZ.put (FZ.put (FZ.put (⟨h.1,h.2.2.1,h.2.2.2.1,⟨h.2.2.2.2.1.1,h.2.2.2.2.1.2.1,h.2.2.2.2.1.2.2.2⟩,fun q hq=>⟨(h.2.2.2.2.2 q hq).1,(h.2.2.2.2.2 q hq).2.1,(h.2.2.2.2.2 q hq).2.2.1⟩⟩:FZ w0 w O Z a l cap n zV G) 0 (v 0)) 1 (v 1)) 2 (v 2)) 3 (v 3)) 4 (v 4)) 5 (v 5)) 6 (v 6)) 7 (v 7)) 8 (v 8)) 9 (v 9)) 10 (v 10)) 11 (v 11)) 12 (v 12)) 13 (v 13)) 14 (v 14))
 refine⟨_,rfl,fun j hj=>?_,k.1,k.2.2.1,k.2.2.2.2⟩;rw[(k.2.1 j hj).1]
 rcases(show j=0∨j=1∨j=2∨j=3∨j=4∨j=5∨j=6∨j=7∨j=8∨j=9∨j=10∨j=11∨j=12∨j=13∨j=14 by omega) with rfl|rfl|rfl|rfl|rfl|rfl|rfl|rfl|rfl|rfl|rfl|rfl|rfl|rfl|rfl<;>simp[updV]
theorem fin15L{a l cap n v G}(h:AXS w0 w O Z B a l cap n v G)(hL:Ls v [x0,x1,x2,x3,x4,x5,x6,x7,x8,x9,x10,x11,x12,x13,x14]):∃U,U=(((((((((((((((w.setCell (Ad Z 0) x0).setCell (Ad Z 1) x1).setCell (Ad Z 2) x2).setCell (Ad Z 3) x3).setCell (Ad Z 4) x4).setCell (Ad Z 5) x5).setCell (Ad Z 6) x6).setCell (Ad Z 7) x7).setCell (Ad Z 8) x8).setCell (Ad Z 9) x9).setCell (Ad Z 10) x10).setCell (Ad Z 11) x11).setCell (Ad Z 12) x12).setCell (Ad Z 13) x13).setCell (Ad Z 14) x14)∧(Kc U Z 0 x0∧Kc U Z 1 x1∧Kc U Z 2 x2∧Kc U Z 3 x3∧Kc U Z 4 x4∧Kc U Z 5 x5∧Kc U Z 6 x6∧Kc U Z 7 x7∧Kc U Z 8 x8∧Kc U Z 9 x9∧Kc U Z 10 x10∧Kc U Z 11 x11∧Kc U Z 12 x12∧Kc U Z 13 x13∧Kc U Z 14 x14)∧Dc U O a l cap n∧DK O w0 U∧∀q∈G,U.cell? q.1=some q.2∧w0.heap.size≤q.1.block∧q.1.block≠Z:=by
 obtain rfl:v 0=x0:=hL.at rfl;obtain rfl:v 1=x1:=hL.at rfl;obtain rfl:v 2=x2:=hL.at rfl;obtain rfl:v 3=x3:=hL.at rfl;obtain rfl:v 4=x4:=hL.at rfl;obtain rfl:v 5=x5:=hL.at rfl;obtain rfl:v 6=x6:=hL.at rfl;obtain rfl:v 7=x7:=hL.at rfl;obtain rfl:v 8=x8:=hL.at rfl;obtain rfl:v 9=x9:=hL.at rfl;obtain rfl:v 10=x10:=hL.at rfl;obtain rfl:v 11=x11:=hL.at rfl;obtain rfl:v 12=x12:=hL.at rfl;obtain rfl:v 13=x13:=hL.at rfl;obtain rfl:v 14=x14:=hL.at rfl;obtain⟨U,hU,hz,r⟩:=fin15 h;exact⟨U,hU,⟨hz 0 (by decide),hz 1 (by decide),hz 2 (by decide),hz 3 (by decide),hz 4 (by decide),hz 5 (by decide),hz 6 (by decide),hz 7 (by decide),hz 8 (by decide),hz 9 (by decide),hz 10 (by decide),hz 11 (by decide),hz 12 (by decide),hz 13 (by decide),hz 14 (by decide)⟩,r⟩
theorem Uc(O:Nat)(a:Option Addr)(l:List Int)(cap n:Nat)(x y z lo hi:Int)(hn:n≤1000000)(hl:l.length≤100)(hb:(lo≤x∧x≤hi)∧(lo≤y∧y≤hi)∧lo≤z∧z≤hi)(w:World)(hd:Dc w O a l cap n):
 Calls prog 70 #[.pointer (some (Ad O 0)),.slice (some (Ad w.heap.size 0)) 3 3] (w.alloc (.cells #[Vi x,Vi y,Vi z] 3)) fun e w'=>(∃q,e=.returned (Vi q)∧lo≤q∧q≤hi)∧Dc w' O a l cap (n+1)∧DK O w w':=by
 have hO:=hd.lt;refine(Nc O w.heap.size a l cap n 3 [x,y,z] lo hi hn hl (by simp) (by simp) ?_ (by omega) _ (hd.later (Zb _ _)) ?_).mono fun e w' h=>⟨h.1,h.2.1,(DK.of_below (Zb _ _)).trans h.2.2.1⟩
 · intro k hk;simp only[List.length_cons,List.length_nil] at hk
   rcases Qth k with rfl|rfl|rfl
   · exact hb.1
   · exact hb.2.1
   · exact hb.2.2
 · intro k hk;simp only[List.length_cons,List.length_nil] at hk
   rcases Qth k with rfl|rfl|rfl<;>simp[go_sem]
theorem Nd(O:Nat)(a:Option Addr)(l:List Int)(cap n:Nat)(x y lo hi:Int)(hn:n≤1000000)(hl:l.length≤100)(hb:(lo≤x∧x≤hi)∧lo≤y∧y≤hi)(w:World)(hd:Dc w O a l cap n):
 Calls prog 70 #[.pointer (some (Ad O 0)),.slice (some (Ad w.heap.size 0)) 2 2] (w.alloc (.cells #[Vi x,Vi y] 3)) fun e w'=>(∃q,e=.returned (Vi q)∧lo≤q∧q≤hi)∧Dc w' O a l cap (n+1)∧DK O w w':=by
 have hO:=hd.lt;refine(Nc O w.heap.size a l cap n 2 [x,y] lo hi hn hl (by simp) (by simp) ?_ (by omega) _ (hd.later (Zb _ _)) ?_).mono fun e w' h=>⟨h.1,h.2.1,(DK.of_below (Zb _ _)).trans h.2.2.1⟩
 · intro k hk;simp only[List.length_cons,List.length_nil] at hk
   rcases Qtw k with rfl|rfl
   · exact hb.1
   · exact hb.2
 · intro k hk;simp only[List.length_cons,List.length_nil] at hk
   rcases Qtw k with rfl|rfl<;>simp[go_sem]
theorem diceMost2k(O:Nat)(a:Option Addr)(l:List Int)(cap n K:Nat)(x y lo hi:Int)(hn:n≤1000000)(hl:l.length≤100)(hb:(lo≤x∧x≤hi)∧lo≤y∧y≤hi)(w:World)(hK:w.heap.size=K)(hd:Dc w O a l cap n):
 Calls prog 70 #[.pointer (some (Ad O 0)),.slice (some (Ad K 0)) 2 2] (w.alloc (.cells #[Vi x,Vi y] 3)) fun e w'=>(∃q,e=.returned (Vi q)∧lo≤q∧q≤hi)∧Dc w' O a l cap (n+1)∧DK O w w':=by
 subst hK;exact Nd O a l cap n x y lo hi hn hl hb w hd
theorem keep15(hb:Bw u u')(h:Kc u B 0 x0∧Kc u B 1 x1∧Kc u B 2 x2∧Kc u B 3 x3∧Kc u B 4 x4∧Kc u B 5 x5∧Kc u B 6 x6∧Kc u B 7 x7∧Kc u B 8 x8∧Kc u B 9 x9∧Kc u B 10 x10∧Kc u B 11 x11∧Kc u B 12 x12∧Kc u B 13 x13∧Kc u B 14 x14):Kc u' B 0 x0∧Kc u' B 1 x1∧Kc u' B 2 x2∧Kc u' B 3 x3∧Kc u' B 4 x4∧Kc u' B 5 x5∧Kc u' B 6 x6∧Kc u' B 7 x7∧Kc u' B 8 x8∧Kc u' B 9 x9∧Kc u' B 10 x10∧Kc u' B 11 x11∧Kc u' B 12 x12∧Kc u' B 13 x13∧Kc u' B 14 x14:=by
 obtain⟨h0,h1,h2,h3,h4,h5,h6,h7,h8,h9,h10,h11,h12,h13,h14⟩:=h;exact⟨cell_later hb h0,cell_later hb h1,cell_later hb h2,cell_later hb h3,cell_later hb h4,cell_later hb h5,cell_later hb h6,cell_later hb h7,cell_later hb h8,cell_later hb h9,cell_later hb h10,cell_later hb h11,cell_later hb h12,cell_later hb h13,cell_later hb h14⟩
theorem keepC(hb:Bw u u')(h:Kc u B j x):Kc u' B j x:=cell_later hb h
theorem keepCs{y:Value}(hk:k≠j)(h:Kc u B j x):(u.setCell (Ad B k) y).cell? (Ad B j)=some x:=Zi h (Zo hk)
theorem diceMost3d(O:Nat)(a:Option Addr)(l:List Int)(cap n:Nat)(x y z lo hi:Int)(hn:n≤1000000)(hl:l.length≤100)(hb:(lo≤x∧x≤hi)∧(lo≤y∧y≤hi)∧lo≤z∧z≤hi)(w:World)(hd:Dc w O a l cap n):
 Calls prog 70 #[.pointer (some (Ad O 0)),.slice (some (Ad w.heap.size 0)) 3 3] (w.alloc (.cells #[Vi x,Vi y,Vi z] 3)).drew fun e w'=>(∃q,e=.returned (Vi q)∧lo≤q∧q≤hi)∧Dc w' O a l cap (n+1)∧DK O w w':=by
 have hO:=hd.lt;refine(Nc O w.heap.size a l cap n 3 [x,y,z] lo hi hn hl (by simp) (by simp) ?_ (by omega) _ ((hd.later (Zb _ _)).later (Below.refl _ _).drew) ?_).mono fun e w' h=>⟨h.1,h.2.1,(DK.of_below (Zb _ _).drew).trans h.2.2.1⟩
 · intro k hk;simp only[List.length_cons,List.length_nil] at hk
   rcases Qth k with rfl|rfl|rfl
   · exact hb.1
   · exact hb.2.1
   · exact hb.2.2
 · intro k hk;simp only[List.length_cons,List.length_nil] at hk
   rcases Qth k with rfl|rfl|rfl<;>simp[go_sem]
theorem mrun_min3(ts:Array TypeId)(t:TypeId)(p q r:Int)(w:World):(Builtin.min_ ts t #[Vi p,Vi q,Vi r]).run prog w=.ok (Vi (mnA (mnA p q) r)) w:=by
 unfold mnA
 by_cases h:q<p
 · rw[Int.min_eq_right (show q≤p by omega)]
   by_cases h2:r<q
   · rw[Int.min_eq_right (by omega)];simp[Builtin.min_,Builtin.min2,h,h2]
   · rw[Int.min_eq_left (by omega)];simp[Builtin.min_,Builtin.min2,h,h2]
 · rw[Int.min_eq_left (show p≤q by omega)]
   by_cases h2:r<p
   · rw[Int.min_eq_right (by omega)];simp[Builtin.min_,Builtin.min2,h,h2]
   · rw[Int.min_eq_left (by omega)];simp[Builtin.min_,Builtin.min2,h,h2]
theorem min3_bd{t q:Int}(ht:1≤t)(hc:1≤c)(hq:1≤q)(ht':t≤1000):1≤mnA (mnA t c) q+1∧mnA (mnA t c) q+1≤1001∧mnA (mnA t c) q≤t∧mnA (mnA t c) q≤c:=by unfold mnA;omega
def adrop:Nat→Code→Code
 |n+1,.seq _ b=>adrop n b
 |_,c=>c
noncomputable def axisTail:Code:=adrop 14 (Tryz.f68.body.getD .skip)
theorem axisTail_any(O:Nat)(a:Option Addr)(l:List Int)(cap n:Nat)(hn:n≤900000)(hl:l.length≤100)(w:World)(_hraw:RawAt a l w.heap.size)(_hO:O<w.heap.size)(ur:World)(B G1 G2:Nat)(sf tv nz ks pu wa mo cn lm cv tu bu gx gy gz:Int)(x1:Value)(wi rx:Int)(vr:Nat→Value)(bwi:0≤wi∧wi≤150000)(hX:AXS w ur O w.heap.size B a l cap (n+19) vr [(⟨G2,0,none⟩,Vi gx),(⟨G2,1,none⟩,Vi gy),(⟨G1,0,none⟩,Vi 0),(⟨G1,1,none⟩,Vi gz)])(hvs:Ls vr [Vi 0,Vi 0,Vi nz,Vi pu,Vi sf,Vi tv,Vi rx,Vi ks,Vi lm,Vi cv,Vi wa,Vi tu,.slice (some (Ad G1 0)) 2 2,.slice (some (Ad G2 0)) 2 2,Vi bu])(brx:1≤rx∧rx≤tv)(hpr:pu+ks≤(sf-1)*rx)(hwi:wi=2*(nz+bk ((sf-1)*rx) ((sf-1)*tv+(pu+ks))))(hgb:(100≤gz∧gz≤999)∧(0≤gx∧gx≤65536)∧0≤gy∧gy≤299)(hlm:2*nz≤lm∧lm≤2040)(hcv:1≤cv∧cv≤10)(htb:(0≤tu∧tu≤1000)∧0≤bu∧bu≤65536)(bs:2≤sf∧sf≤4)(bt:1≤tv∧tv≤1000)(bnz:0≤nz∧nz≤1000)(bks:0≤ks∧ks≤tv)(bpu:0≤pu∧pu≤1000)(bw:1≤wa∧wa≤10)(u7 u8 u9 u10 u11 u12 u13 u14 u15 u16 u17 u18 u19 u20 u21 u22 u23 u24 u25 u26 u27 u28 u29 u30 u31 u32 u33 u34 u35 u36 u37 u38 u39 u40 u41 u42 u43 u44 u45 u46 u47 u48 u49 u50 u51 u52 u53 u54 u55 u56 u57 u58 u59 u60 u61 u62 u63 u64 u65 u66 u67 u68 u69 u70 u71 u72 u73 u74 u75 u76 u77 u78 u79 u80 u81 u82 u83 u84 u85 u86 u87 u88 u89 u90 u91 u92 u93 u94 u95 u96 u97 u98 u99 u100 u101 u102 u103 u104 u105 u106 u107 u108 u109 u110 u111 u112 u113 u114 u115 u116 u117 u118 u119 u120 u121 u122 u123 u124 u125 u126 u127 u128 u129 u130 u131 u132 u133 u134 u135 u136 u137 u138 u139 u140 u141 u142 u143 u144 u145 u146 u147 u148 u149:Value):
 Code.wp prog axisTail (bodyPost prog Tryz.f68 (fun e w'=>(∃(a0 a1 a2 a3 a4 a5 a6 a7 a8 a9 a10 a11 a14:Int) (G1 G2:Nat),e=.returned (.agg #[Vi a0,Vi a1,Vi a2,Vi a3,Vi a4,Vi a5,Vi a6,Vi a7,Vi a8,Vi a9,Vi a10,Vi a11,.slice (some (Ad G1 0)) 2 2,.slice (some (Ad G2 0)) 2 2,Vi a14])∧AxK a0 a1 a2 a3 a4 a5 a6 a7 a8 a9 a10 a11 a14∧(∃x y z,GL w' G1 G2 x y z)∧w.heap.size≤G1∧w.heap.size≤G2)∧Dc w' O a l cap (n+22)∧DK O w w')) ⟨#[.pointer (some (Ad O 0)),x1,.pointer (some (Ad w.heap.size 0)),.pointer (some (Ad B 0)),Vi mo,Vi cn,Vi wi,u7,u8,u9,u10,u11,u12,u13,u14,u15,u16,u17,u18,u19,u20,u21,u22,u23,u24,u25,u26,u27,u28,u29,u30,u31,u32,u33,u34,u35,u36,u37,u38,u39,u40,u41,u42,u43,u44,u45,u46,u47,u48,u49,u50,u51,u52,u53,u54,u55,u56,u57,u58,u59,u60,u61,u62,u63,u64,u65,u66,u67,u68,u69,u70,u71,u72,u73,u74,u75,u76,u77,u78,u79,u80,u81,u82,u83,u84,u85,u86,u87,u88,u89,u90,u91,u92,u93,u94,u95,u96,u97,u98,u99,u100,u101,u102,u103,u104,u105,u106,u107,u108,u109,u110,u111,u112,u113,u114,u115,u116,u117,u118,u119,u120,u121,u122,u123,u124,u125,u126,u127,u128,u129,u130,u131,u132,u133,u134,u135,u136,u137,u138,u139,u140,u141,u142,u143,u144,u145,u146,u147,u148,u149],[]⟩ ur:=by
 obtain⟨wi0,wi1⟩:=bwi;have HL:=Za hvs;obtain⟨rx0,rx1⟩:=brx;obtain⟨bs0,bs1⟩:=bs;obtain⟨bt0,bt1⟩:=bt;obtain⟨nz0,bz⟩:=bnz;obtain⟨ks0,bk0⟩:=bks;obtain⟨pu0,bp⟩:=bpu;have m2:=fun ts t p q w=>run_minA ts t p q w;have x2:=fun ts t p q w=>run_maxA ts t p q w;have HX:=Za hX;have Hf:=Za hpr;have Hg:=Za hwi;have Hh:=Za hgb;have Hi:=Za hlm;have Hj:=Za hcv;have Hk:=Za htb;clear hX hpr hwi hgb hlm hcv htb hvs
 conv=>arg 2;whnf
 have TK40:Hid True:=trivial;have TK41:Hid True:=trivial
 go_upto_region 17 with(first
  |(go_at_call 70;clear TK40;refine(Nd O a l cap (n+19) 3 3000 1 3000 (by omega) hl ?_ _ HX.out.1).mono ?_;(omega);rintro e y40 ⟨⟨q,rfl,q0,q1⟩,hD,hK⟩;have HX:=Za (AXS.dk HX.out hD hK);clear hD hK)
  |(go_at_call 67;clear TK41;refine(dN q hl HX.out.1).mono ?_;rintro e y41 ⟨⟨wm,rfl,wm0,wm1⟩,hD,hK,hsz⟩;clear hsz;have HX:=Za (AXS.dk HX.out hD hK);clear hD hK))
 have bv:0≤wi+wm∧wi+wm≤153000:=by omega
 have Hl:=Za (show wi≤wi+wm by omega);generalize wi+wm=wd at *;obtain⟨bv0,bv1⟩:=bv;clear wi0 wi1 wm0 wm1 q0 q1
 have bmn:1≤mnA wd 100000+1∧mnA wd 100000+1≤100001:=by unfold mnA;omega
 obtain⟨bmn0,bmn1⟩:=bmn;have TK42:Hid True:=trivial
 go_upto_region 18 with(go_at_call 67;clear TK42;refine(dN (mnA wd 100000+1) hl HX.out.1).mono ?_;rintro e y42 ⟨⟨lx,rfl,lx0,lx1⟩,hD,hK,hsz⟩;clear hsz;have HX:=Za (AXS.dk HX.out hD hK);clear hD hK;have d0:=(HX.out.2.1 0 (by omega)).1;have f0:=(HX.out.2.1 0 (by omega)).2);have HX:=Za (AXS.put (HX.out) 0 (Vi (mxA (-lx) (wd-200000))));have HL:=Za ((HL.out).put 0 (Vi (mxA (-lx) (wd-200000))));generalize (updV vr 0 (Vi (mxA (-lx) (wd-200000))))=v43 at HX HL;generalize y42.setCell (Ad B 0) (Vi (mxA (-lx) (wd-200000)))=u43 at*
 have bmx:mnA wd 100000≤wd∧mnA wd 100000≤100000:=by unfold mnA;omega
 have bl:-100000≤mxA (-lx) (wd-200000)∧mxA (-lx) (wd-200000)≤0:=by unfold mxA;omega
 have Hm:=Za (show 0≤mxA (-lx) (wd-200000)+wd by unfold mxA;omega);generalize mxA (-lx) (wd-200000)=lo at *;obtain⟨bl0,bl1⟩:=bl;clear lx0 lx1 bmn0 bmn1 bmx d0 f0;have c0:=AXS.ld HX.out HL.out (j:=0) (x:=Vi lo) rfl;have d1:=(HX.out.2.1 1 (by omega)).1;have f1:=(HX.out.2.1 1 (by omega)).2
 go_upto_region 19 with fail;have HX:=Za (AXS.put (HX.out) 1 (Vi (lo+wd)));have HL:=Za ((HL.out).put 1 (Vi (lo+wd)));generalize (updV v43 1 (Vi (lo+wd)))=v45 at HX HL;generalize u43.setCell (Ad B 1) (Vi (lo+wd))=u45 at *;clear c0 d1 f1
 by_cases hh:100000<lo+wd
 · skip
   have c1:=AXS.ld HX.out HL.out (j:=1) (x:=Vi (lo+wd)) rfl;have d0:=(HX.out.2.1 0 (by omega)).1;have f0:=(HX.out.2.1 0 (by omega)).2;have d1:=(HX.out.2.1 1 (by omega)).1;have f1:=(HX.out.2.1 1 (by omega)).2
   go_upto_region 21 with fail;have HX:=Za (AXS.put (AXS.put (HX.out) 0 (Vi (100000-wd))) 1 (Vi 100000));have HL:=Za (((HL.out).put 0 (Vi (100000-wd))).put 1 (Vi 100000));generalize (updV (updV v45 0 (Vi (100000-wd))) 1 (Vi 100000))=v46 at HX HL;generalize (u45.setCell (Ad B 0) (Vi (100000-wd))).setCell (Ad B 1) (Vi 100000)=u46 at *;clear c1 d0 f0 d1 f1;have HL:Hid (Ls v46 [Vi (100000-wd),Vi 100000,Vi nz,Vi pu,Vi sf,Vi tv,Vi rx,Vi ks,Vi lm,Vi cv,Vi wa,Vi tu,.slice (some (Ad G1 0)) 2 2,.slice (some (Ad G2 0)) 2 2,Vi bu]):=HL;obtain⟨c0,c1,c2,c3,c4,c5,c6,c7,c8,c9,c10,c11,c12,c13,c14⟩:=AXS.all HX.out HL.out;obtain⟨⟨d0,f0⟩,⟨d1,f1⟩,⟨d2,f2⟩,⟨d3,f3⟩,⟨d4,f4⟩,⟨d5,f5⟩,⟨d6,f6⟩,⟨d7,f7⟩,⟨d8,f8⟩,⟨d9,f9⟩,⟨d10,f10⟩,⟨d11,f11⟩,⟨d12,f12⟩,⟨d13,f13⟩,⟨d14,f14⟩⟩:=AXS.zer HX.out;obtain⟨U,hU,hz,hD,hK,hG⟩:=fin15L HX.out HL.out;have HU:=Za hU;have Hb:=Za hz;have Hc:=Za hD;have Hd:=Za hK;have Ha:=Za hG;clear HX hU hz hD hK hG;go_wp2_with fail;rw[←HU.out];obtain⟨z0,z1,z2,z3,z4,z5,z6,z7,z8,z9,z10,z11,z12,z13,z14⟩:=Hb.out;refine bodyPost_ret (v:=.agg #[Vi (100000-wd),Vi 100000,Vi nz,Vi pu,Vi sf,Vi tv,Vi rx,Vi ks,Vi lm,Vi cv,Vi wa,Vi tu,.slice (some (Ad G1 0)) 2 2,.slice (some (Ad G2 0)) 2 2,Vi bu]) ?_ rfl ⟨⟨_,_,_,_,_,_,_,_,_,_,_,_,_,G1,G2,rfl,?_,⟨gz,gx,gy,⟨(Ha.out (⟨G1,0,none⟩,Vi 0) (by simp)).1,(Ha.out (⟨G1,1,none⟩,Vi gz) (by simp)).1,(Ha.out (⟨G2,0,none⟩,Vi gx) (by simp)).1,(Ha.out (⟨G2,1,none⟩,Vi gy) (by simp)).1⟩,Hh.out⟩,(Ha.out (⟨G1,0,none⟩,Vi 0) (by simp)).2.1,(Ha.out (⟨G2,0,none⟩,Vi gx) (by simp)).2.1⟩,Hc.out,Hd.out⟩
   · simp[results,results68,go_sem,z0,z1,z2,z3,z4,z5,z6,z7,z8,z9,z10,z11,z12,z13,z14]
   · have e1:=Hi.out;have e2:=Hj.out;have e3:=Hk.out;have e4:=Hm.out;have e5:=Hl.out;have e6:=Hf.out;have e7:=Hg.out;constructor<;>omega
 · skip
   have c1:=AXS.ld HX.out HL.out (j:=1) (x:=Vi (lo+wd)) rfl
   go_upto_region 21 with fail;clear c1;have HL:Hid (Ls v45 [Vi lo,Vi (lo+wd),Vi nz,Vi pu,Vi sf,Vi tv,Vi rx,Vi ks,Vi lm,Vi cv,Vi wa,Vi tu,.slice (some (Ad G1 0)) 2 2,.slice (some (Ad G2 0)) 2 2,Vi bu]):=HL;obtain⟨c0,c1,c2,c3,c4,c5,c6,c7,c8,c9,c10,c11,c12,c13,c14⟩:=AXS.all HX.out HL.out;obtain⟨⟨d0,f0⟩,⟨d1,f1⟩,⟨d2,f2⟩,⟨d3,f3⟩,⟨d4,f4⟩,⟨d5,f5⟩,⟨d6,f6⟩,⟨d7,f7⟩,⟨d8,f8⟩,⟨d9,f9⟩,⟨d10,f10⟩,⟨d11,f11⟩,⟨d12,f12⟩,⟨d13,f13⟩,⟨d14,f14⟩⟩:=AXS.zer HX.out;obtain⟨U,hU,hz,hD,hK,hG⟩:=fin15L HX.out HL.out;have HU:=Za hU;have Hb:=Za hz;have Hc:=Za hD;have Hd:=Za hK;have Ha:=Za hG;clear HX hU hz hD hK hG;go_wp2_with fail;rw[←HU.out];obtain⟨z0,z1,z2,z3,z4,z5,z6,z7,z8,z9,z10,z11,z12,z13,z14⟩:=Hb.out;refine bodyPost_ret (v:=.agg #[Vi lo,Vi (lo+wd),Vi nz,Vi pu,Vi sf,Vi tv,Vi rx,Vi ks,Vi lm,Vi cv,Vi wa,Vi tu,.slice (some (Ad G1 0)) 2 2,.slice (some (Ad G2 0)) 2 2,Vi bu]) ?_ rfl ⟨⟨_,_,_,_,_,_,_,_,_,_,_,_,_,G1,G2,rfl,?_,⟨gz,gx,gy,⟨(Ha.out (⟨G1,0,none⟩,Vi 0) (by simp)).1,(Ha.out (⟨G1,1,none⟩,Vi gz) (by simp)).1,(Ha.out (⟨G2,0,none⟩,Vi gx) (by simp)).1,(Ha.out (⟨G2,1,none⟩,Vi gy) (by simp)).1⟩,Hh.out⟩,(Ha.out (⟨G1,0,none⟩,Vi 0) (by simp)).2.1,(Ha.out (⟨G2,0,none⟩,Vi gx) (by simp)).2.1⟩,Hc.out,Hd.out⟩
   · simp[results,results68,go_sem,z0,z1,z2,z3,z4,z5,z6,z7,z8,z9,z10,z11,z12,z13,z14]
   · have e1:=Hi.out;have e2:=Hj.out;have e3:=Hk.out;have e4:=Hm.out;have e5:=Hl.out;have e6:=Hf.out;have e7:=Hg.out;constructor<;>omega
end Go.Proofs.YtnfdfiholcelaaaGreatDoor
