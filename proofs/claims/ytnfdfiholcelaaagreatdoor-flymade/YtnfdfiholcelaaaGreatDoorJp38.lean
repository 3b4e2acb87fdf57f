
import Derived.Test.YtnfdfiholcelaaaGreatDoorJp36
set_option maxRecDepth 100000
set_option maxHeartbeats 20000000
namespace Go.Proofs.YtnfdfiholcelaaaGreatDoor
open Go.RowKit Plain Tryz
variable {B K O QF QK QL QZ c cap i m n q:Nat}{C:CR}{Q:Exit→Act→World→Prop}{a:Option Addr}{l:List Int}{ls:List Ft}{op:Oper}{ops:Array Oper}{rest:List Oper}{s:Stp}{ss:List Stp}{t:TypeId}{u u' w:World}{v:Value}{x y:Int}
theorem cr_noise(h:crE C=0)(hi:i<2):0≤C.a i 2∧C.a i 2≤1000:=by
 have k:=cr_gok h hi;have a:=k.toGR;exact⟨a.n0,a.n1⟩
theorem base_any(C:CR)(i:Nat)(h0:0≤C.a i 2)(h1:C.a i 2≤1000)(w:World):Calls prog 74 #[.agg (axL C i).toArray] w (Rt w (Vi (2*C.a i 2+1))):=by
 have v1:=Wr (2*C.a i 2);have v2:=Wr (2*C.a i 2+1);have HB:=Za (Zb w (.cells (axL C i).toArray 26));have x2:=((Blk.new w 26 (axL C i)).cell (j:=2) rfl).1
 go_enter func74,ntmps74
 go_upto_region 1 with fail;generalize w.alloc (.cells (axL C i).toArray 26)=v0 at *;generalize hQ:w.heap.size=Q at x2⊢;go_wp2_with fail;go_ret;rw[←hQ];exact⟨rfl,HB.out⟩
theorem base3{n:Int}(h0:0≤n)(h1:n≤1000):(1≤(2*n+1)*(2*n+1)∧(2*n+1)*(2*n+1)≤4004001)∧1≤(2*n+1)*(2*n+1)*(2*n+1)∧(2*n+1)*(2*n+1)*(2*n+1)≤8012006001:=by
 have a0:1≤2*n+1:=by omega
 have a1:2*n+1≤2001:=by omega
 generalize 2*n+1=b at *;have b0:1*1≤b*b:=Int.mul_le_mul a0 a0 (by omega) (by omega);have b1:b*b≤2001*2001:=Int.mul_le_mul a1 a1 (by omega) (by omega);generalize b*b=d at *;have c0:1*1≤d*b:=Int.mul_le_mul (by omega) a0 (by omega) (by omega);have c1:d*b≤4004001*2001:=Int.mul_le_mul (by omega) a1 (by omega) (by omega)
 omega
theorem lean_bd{p:Int}(h0:0≤p)(x0:-1≤x)(x1:x≤1):-p≤p*x∧p*x≤p:=by
 rcases(show x=-1∨x=0∨x=1 by omega) with rfl|rfl|rfl<;>omega
theorem Oth.mblk{Q:Nat}{cs:List Value}(h:Oth u u' B)(hB:Q≠B)(k:Blk t u Q cs):Blk t u' Q cs:=(h.2.2.2.2 Q k.lt hB).trans k
theorem Oth.ofBelow(B:Nat)(h:Bw u u'):Oth u u' B:=(Oth.refl u B).later h
theorem Dc.oth(h:Dc u O a l cap n)(hk:Oth u u' B)(hO:O≠B)(hr:∀b off,a=some (Ad b off)→l≠[]→b≠B):Dc u' O a l cap n:=by
 obtain⟨⟨h1,h2⟩,h3,h4,h5⟩:=h;refine⟨⟨hk.cell hO h1,hk.cell hO h2⟩,(World.frozen?_of_block (w:=u) (a:=⟨O,1,none⟩) (hk.2.2.2.2 O (World.block_lt_of_cell? u ⟨O,1,none⟩ h2) hO)).trans h3,?_,h5⟩
 rcases h4 with h4|⟨b,off,h4,hc⟩
 · exact .inl h4
 · by_cases hl:l=[]
   · exact .inl hl
   · exact .inr ⟨b,off,h4,fun k hk'=>hk.cell (hr b off h4 hl) (hc k hk')⟩
theorem RwO.far{α:Type}{f:α→List Value}{s:Value}{rs:List α}(h:RwO f m t K u s rs)(ho:Oth u u' B)(hB:∀g,s.ownBlock=some g→g≠B):RwO f m t K u' s rs:=
 World.ownsRow.kept h ho.grown (by
  cases e:s.ownBlock with
  |none=>exact .inl rfl
  |some k=>exact .inr (fun e2=>hB k e (by cases e2;rfl)))
structure FP (w:World) (QK QZ O QF QL K:Nat) (a:Option Addr) (l:List Int) (s:Value):Prop where
 k:w.heap.size≤QK∧QK<QZ
 z:QZ<O
 o:O<QF
 f:QF<QL
 e:QL<K
 r:RawAt a l w.heap.size
 g:∀g,s.ownBlock=some g→O<g∧g<K∧g≠QF∧g≠QL
structure FV (C:CR) (w u:World) (QK QZ O QF QL K:Nat) (a:Option Addr) (l:List Int) (cap q:Nat) (s:Value) (ls:List Ft) (x y:Int) (v:Value) (ss:List Stp):Prop where
 d:Dc u O a l cap q
 k:Blk 29 u QK (crL C)
 z:Blk 67 u QZ [.slice none 0 0,.slice none 0 0]
 f:Blk 67 u QF [s,v]
 e:Blk 76 u QL [Vi x,Vi y]
 r:FtO (O+1) u s ls
 t:StO K u v ss
 b:Bw w u
 h:K≤u.heap.size
section
variable {C : CR} {w u u' : World} {QK QZ O QF QL K : Nat} {a : Option Addr} {l : List Int} {cap q : Nat} {s : Value} {ls : List Ft} {x y : Int} {v : Value} {ss : List Stp}
theorem FV.oth(p:FP w QK QZ O QF QL K a l s)(h:FV C w u QK QZ O QF QL K a l cap q s ls x y v ss)(ho:Oth u u' B)(hB:K≤B)(hv:∀g,v.ownBlock=some g→g≠B):FV C w u' QK QZ O QF QL K a l cap q s ls x y v ss:=by
 obtain⟨⟨pk0,pk1⟩,pz,po,pf,pl,pr,pg⟩:=p;refine⟨h.d.oth ho (by omega) (fun b off e hl=>by have:=pr b off e hl;omega),ho.mblk (by omega) h.k,ho.mblk (by omega) h.z,ho.mblk (by omega) h.f,ho.mblk (by omega) h.e,h.r.far ho (fun g e=>by have:=pg g e;omega),h.t.far ho hv,?_,Nat.le_trans h.h ho.1⟩;exact⟨ho.2.1.trans h.b.os,ho.2.2.1.trans h.b.tape,ho.2.2.2.1.trans h.b.output,Nat.le_trans h.b.size ho.1,fun k hk=>(ho.2.2.2.2 k (by have:=h.h;omega) (by omega)).trans (h.b.block k hk)⟩
theorem FV.later(p:FP w QK QZ O QF QL K a l s)(h:FV C w u QK QZ O QF QL K a l cap q s ls x y v ss)(hb:Bw u u'):FV C w u' QK QZ O QF QL K a l cap q s ls x y v ss:=
 h.oth p (Oth.ofBelow u.heap.size hb) h.h (fun g e=>by have:=(World.ownsRow.lt h.t g e).2;omega)
theorem FV.dk{q':Nat}(p:FP w QK QZ O QF QL K a l s)(h:FV C w u QK QZ O QF QL K a l cap q s ls x y v ss)(hd:Dc u' O a l cap q')(hk:DK O u u'):FV C w u' QK QZ O QF QL K a l cap q' s ls x y v ss:=by
 obtain⟨⟨pk0,pk1⟩,pz,po,pf,pl,pr,pg⟩:=p;have ho:=hk.oth;refine⟨hd,ho.mblk (by omega) h.k,ho.mblk (by omega) h.z,ho.mblk (by omega) h.f,ho.mblk (by omega) h.e,h.r.far ho (fun g e=>by have:=pg g e;omega),h.t.far ho (fun g e=>by have:=(World.ownsRow.lt h.t g e).1;omega),?_,Nat.le_trans h.h ho.1⟩;exact⟨ho.2.1.trans h.b.os,ho.2.2.1.trans h.b.tape,ho.2.2.2.1.trans h.b.output,Nat.le_trans h.b.size ho.1,fun k hk=>(ho.2.2.2.2 k (by have:=h.h;omega) (by omega)).trans (h.b.block k hk)⟩
end
theorem RwO.weak{α:Type}{f:α→List Value}{K':Nat}{s:Value}{rs:List α}(h:RwO f m t K u s rs)(hK:K'≤K):RwO f m t K' u s rs:=by
 refine⟨h.1,?_⟩
 rcases h.2 with h|⟨g,cap,cur,h1,h2,h3⟩
 · exact .inl h
 · exact .inr ⟨g,cap,cur,h1,Nat.le_trans hK h2,h3⟩
theorem isStoreT{P:Program}{a:Act}(t:TypeId)(x y:Operand)(_ho:op.op=.store t x y)(h:wpList P ops Q (op::rest) a w):wpList P ops Q (op::rest) a w:=h
theorem N4{a:Act}{c c':Array Value}(t:TypeId)(n:Nat)(hi:(prog.info? t).map (·.size)=some n)(x y:Operand)(hgd:op.guard=none)(ho:op.op=.store t x y)(hx:a.eval x=.pointer (some (Ad w.heap.size 0)))(hy:a.eval y=.agg c')(hs:c'.size=n)(hc:c.size=c'.size)(h1:c'.all (·.oneCell')=true)(h:wpList prog ops Q rest (a.put op.dst undef) (w.alloc (.cells c' t))):wpList prog ops Q (op::rest) a (w.alloc (.cells c t)):=
 wpList_plain hgd fun _ hK=>by
  unfold Oper.wp execOp
  simp only[ho,hx,hy,Sem.run_bind,Sem.run_pure,Result.andThen_ok,run_storeAt_new w t c c' (by rw[hi,hs]) hc h1];exact hK _ _ h
theorem infoFl2:(prog.info? 67).map (·.size)=some 2:=by kernel_rfl
theorem RwO.fts{l:List Ft}(h:RwO ftL 5 73 K u (.slice a n c) l):Fts u a l:=FtO.fts h
theorem RwO.sts{l:List Stp}(h:RwO stpL 8 78 K u (.slice a n c) l):Sts u a l:=StO.sts h
theorem FV.push{s:Value}{v':Value}{ss':List Stp}(p:FP w QK QZ O QF QL K a l s)(h:FV C w u QK QZ O QF QL K a l cap q s ls x y v ss)(hg:u.grownBy u' v.ownBlock)(hr:StO K u' v' ss'):FV C w (u'.setCell (Ad QF 1) v') QK QZ O QF QL K a l cap q s ls x y v' ss':=by
 have hb:=h.t.below h.h hg;obtain⟨⟨pk0,pk1⟩,pz,po,pf,pl,pr,pg⟩:=p;have ho:Oth u' (u'.setCell (Ad QF 1) v') QF:=(Oth.refl u' QF).set;have hS:K≤u'.heap.size:=Nat.le_trans h.h hb.size;have hd:Dc u' O a l cap q:=h.d.up hb (by omega) (fun b off e hl=>by have:=pr b off e hl;omega);have hF:Blk 67 u' QF [s,v]:=(hb.block QF (by omega)).trans h.f
 have hF':Blk 67 (u'.setCells QF 1 [v']) QF [s,v']:=by
  have k:=Blk.setCells [v'] 1 u' _ hF;exact k
 have hR:FtO (O+1) u' s ls:=World.ownsRow.kept h.r hg (by
  cases e:s.ownBlock with
  |none=>exact .inl rfl
  |some g=>exact .inr (fun e2=>by have:=pg g e;have:=(World.ownsRow.lt h.t g e2.symm).1;omega))
 refine⟨hd.oth ho (by omega) (fun b off e hl=>by have:=pr b off e hl;omega),ho.mblk (by omega) ((hb.block _ (by omega)).trans h.k),ho.mblk (by omega) ((hb.block _ (by omega)).trans h.z),hF',ho.mblk (by omega) ((hb.block _ (by omega)).trans h.e),hR.far ho (fun g e=>(pg g e).2.2.1),hr.far ho (fun g e=>by have:=(World.ownsRow.lt hr g e).1;omega),?_,Nat.le_trans hS ho.1⟩;exact⟨ho.2.1.trans (hb.os.trans h.b.os),ho.2.2.1.trans (hb.tape.trans h.b.tape),ho.2.2.2.1.trans (hb.output.trans h.b.output),Nat.le_trans h.b.size (Nat.le_trans hb.size ho.1),fun k hk=>(ho.2.2.2.2 k (by omega) (by omega)).trans ((hb.block k (by omega)).trans (h.b.block k hk))⟩
theorem diceMost5(O:Nat)(a:Option Addr)(l:List Int)(cap n:Nat)(x y z t r lo hi:Int)(hn:n≤1000000)(hl:l.length≤100)(hb:(lo≤x∧x≤hi)∧(lo≤y∧y≤hi)∧(lo≤z∧z≤hi)∧(lo≤t∧t≤hi)∧lo≤r∧r≤hi)(w:World)(hd:Dc w O a l cap n):
 Calls prog 70 #[.pointer (some (Ad O 0)),.slice (some (Ad w.heap.size 0)) 5 5] (w.alloc (.cells #[Vi x,Vi y,Vi z,Vi t,Vi r] 3)) fun e w'=>(∃q,e=.returned (Vi q)∧lo≤q∧q≤hi)∧Dc w' O a l cap (n+1)∧DK O w w':=by
 have hO:=hd.lt;refine(Nc O w.heap.size a l cap n 5 [x,y,z,t,r] lo hi hn hl (by simp) (by simp) ?_ (by omega) _ (hd.later (Zb _ _)) ?_).mono fun e w' h=>⟨h.1,h.2.1,(DK.of_below (Zb _ _)).trans h.2.2.1⟩
 · intro k hk;simp only[List.length_cons,List.length_nil] at hk
   rcases(show k=0∨k=1∨k=2∨k=3∨k=4 by omega) with rfl|rfl|rfl|rfl|rfl
   · exact hb.1
   · exact hb.2.1
   · exact hb.2.2.1
   · exact hb.2.2.2.1
   · exact hb.2.2.2.2
 · intro k hk;simp only[List.length_cons,List.length_nil] at hk
   rcases(show k=0∨k=1∨k=2∨k=3∨k=4 by omega) with rfl|rfl|rfl|rfl|rfl<;>simp[go_sem]
def stK(s:Stp)(i:Nat)(x:Int):Stp:={ s with k:=fun j=>if j=i then x else s.k j }
def stP(s:Stp)(i:Nat)(x:Int):Stp:={ s with p:=fun j=>if j=i then x else s.p j }
def stZ(s:Stp)(i:Nat)(x:Int):Stp:={ s with z:=fun j=>if j=i then x else s.z j }
theorem stpk_at(s:Stp)(hi:i<2):(stpL s)[i]?=some (Vi (s.k i)):=by rcases Qtw i with rfl|rfl<;>rfl
theorem stpp_at(s:Stp)(hi:i<2):(stpL s)[2+i]?=some (Vi (s.p i)):=by rcases Qtw i with rfl|rfl<;>rfl
theorem stpz_at(s:Stp)(hi:i<2):(stpL s)[4+i]?=some (Vi (s.z i)):=by rcases Qtw i with rfl|rfl<;>rfl
theorem stpk_set(hi:i<2)(h:Blk t u B ((stpL s).set i (Vi x))):Blk t u B (stpL (stK s i x)):=by
 have e:(stpL s).set i (Vi x)=stpL (stK s i x):=by rcases Qtw i with rfl|rfl<;>simp[stpL,stK]
 rwa[e] at h
theorem stpp_set(hi:i<2)(h:Blk t u B ((stpL s).set (2+i) (Vi x))):Blk t u B (stpL (stP s i x)):=by
 have e:(stpL s).set (2+i) (Vi x)=stpL (stP s i x):=by rcases Qtw i with rfl|rfl<;>simp[stpL,stP]
 rwa[e] at h
theorem stpz_set(hi:i<2)(h:Blk t u B ((stpL s).set (4+i) (Vi x))):Blk t u B (stpL (stZ s i x)):=by
 have e:(stpL s).set (4+i) (Vi x)=stpL (stZ s i x):=by rcases Qtw i with rfl|rfl<;>simp[stpL,stZ]
 rwa[e] at h
theorem SA.setK(h:SA C s)(_hi:i<2)(x0:-100≤x)(x1:x≤100):SA C (stK s i x):=by
 refine⟨fun j hj=>?_,h.p,h.z,h.v⟩
 by_cases e:j=i
 · simp only[stK,if_pos e];exact⟨x0,x1⟩
 · simp only[stK,if_neg e];exact h.k j hj
theorem SA.setP(h:SA C s)(_hi:i<2)(x0:-C.a i 3≤x)(x1:x≤C.a i 3):SA C (stP s i x):=by
 refine⟨h.k,fun j hj=>?_,h.z,h.v⟩
 by_cases e:j=i
 · simp only[stP,if_pos e];subst e;exact⟨x0,x1⟩
 · simp only[stP,if_neg e];exact h.p j hj
theorem SA.setZ(h:SA C s)(_hi:i<2)(x0:0≤x)(x1:x≤8589934591):SA C (stZ s i x):=by
 refine⟨h.k,h.p,fun j hj=>?_,h.v⟩
 by_cases e:j=i
 · simp only[stZ,if_pos e];exact⟨x0,x1⟩
 · simp only[stZ,if_neg e];exact h.z j hj
theorem FV.fgrew{s:Value}(p:FP w QK QZ O QF QL K a l s)(h:FV C w u QK QZ O QF QL K a l cap q s ls x y v ss)(hg:u.grownBy u' v.ownBlock):Blk 67 u' QF [s,v]:=by
 have hb:=h.t.below h.h hg;obtain⟨_,_,_,pf,pl,_,_⟩:=p;exact(hb.block QF (by omega)).trans h.f
theorem res_flight(tmps:Array Value)(U:World)(Z:Nat)(cs:List Value)(h2:tmps.getD 8 undef=.pointer (some (Ad Z 0)))(hR:U.rangeAt Z 0 cs)(hn:cs.length=2):
 (results Tryz.f33 tmps).run prog U=.ok (.agg cs.toArray) U:=by
 have h3:tmps[8]?.getD undef=.pointer (some (Ad Z 0)):=by simpa using h2
 simp[results,results33,h3,asAddr,run_loadVar_mid U Z 0 67 cs _ hR underlying67 rfl (by rw[infoFl2,hn])]
theorem flightFrom_any(C:CR)(hcr:crE C=0)(a:Option Addr)(l:List Int)(cap many:Nat)(lo:Bool)(hm:many≤300)(hl:l.length≤100)(w:World)(hil:ILs w a l):
 Calls prog 33 #[.agg (crL C).toArray,.slice a l.length cap,Vi many,.bool lo] w fun e w'=>(∃pf cf ls ps cs ss,e=.returned (.agg #[.slice pf ls.length cf,.slice ps ss.length cs])∧FlOK C ls ss∧Fts w' pf ls∧Sts w' ps ss)∧Bw w w':=by
 have hraw:=raw_of hil;have HB:Hid (Bw w (((w.alloc (.cells (crL C).toArray 29)).alloc (.cells #[.slice none 0 0,.slice none 0 0] 67)).alloc (.cells #[.slice a l.length cap,Vi 0] 154))):=Za (Zc (Zc (Zb _ _) (Zb _ _)) (Zb _ _));have Ht:Hid ((((w.alloc (.cells (crL C).toArray 29)).alloc (.cells #[.slice none 0 0,.slice none 0 0] 67)).alloc (.cells #[.slice a l.length cap,Vi 0] 154)).heap.size=w.heap.size+3):=Za (by simp[World.size_alloc])
 have HD:Hid (Dc (((w.alloc (.cells (crL C).toArray 29)).alloc (.cells #[.slice none 0 0,.slice none 0 0] 67)).alloc (.cells #[.slice a l.length cap,Vi 0] 154)) (w.heap.size+2) a l cap 0):=by
  refine Za ⟨⟨by simp[go_sem],by simp[go_sem]⟩,by simp[go_sem],hil.later HB.out,fun b off e hne=>?_⟩;have:=hraw b off e hne
  omega
 have HK:Hid (Blk 29 (((w.alloc (.cells (crL C).toArray 29)).alloc (.cells #[.slice none 0 0,.slice none 0 0] 67)).alloc (.cells #[.slice a l.length cap,Vi 0] 154)) w.heap.size (crL C)):=Za (((Blk.new w 29 (crL C)).later (Zb _ _)).later (Zb _ _));have HZ:Hid (Blk 67 (((w.alloc (.cells (crL C).toArray 29)).alloc (.cells #[.slice none 0 0,.slice none 0 0] 67)).alloc (.cells #[.slice a l.length cap,Vi 0] 154)) (w.heap.size+1) [.slice none 0 0,.slice none 0 0]):=Za (by have h:=(Blk.new (w.alloc (.cells (crL C).toArray 29)) 67 [.slice none 0 0,.slice none 0 0]).later (Zb _ (.cells #[.slice a l.length cap,Vi 0] 154));rw[World.size_alloc] at h;exact h);have Hq:=Za hraw;clear hil hraw
 go_enter func33,ntmps33
 go_upto_region 2 with fail;generalize (((w.alloc (.cells (crL C).toArray 29)).alloc (.cells #[.slice none 0 0,.slice none 0 0] 67)).alloc (.cells #[.slice a l.length cap,Vi 0] 154))=v2 at *;generalize hO:w.heap.size+2=O at HD⊢;generalize hZ:w.heap.size+1=QZ at HZ⊢;generalize hQ:w.heap.size=QK at HK⊢;have HP:Hid ((QK=w.heap.size∧QZ=w.heap.size+1)∧O=w.heap.size+2):=Za ⟨⟨hQ.symm,hZ.symm⟩,hO.symm⟩;clear hO hZ hQ;have Hu:=Za (faultsFrom_any C lo O a l cap 0 hcr (by omega) hl v2 HD.out (fun b off e h=>by have:=Hq.out b off e h;have:=HB.out.size;omega));have Hv:=Za HK.out.range
 go_upto_region 3 with(first
  |(refine Lm 29 (.tmp 4) rfl QK 0 (crL C) Hv.out underlying29 Zt ?_)
  |(go_at_call 83;refine Hu.out.mono ?_;rintro e v3 ⟨q,s,ls,rfl,hM,hls,hok,hq⟩;have HM:=Za hM;have Hw:=Za hok;clear hM hok Hu Hv;obtain⟨pf,cf,rfl⟩:=HM.out.2.1.slice)
  |(refine isStoreT 67 _ _ rfl ?_;refine N4 (c':=#[.slice pf ls.length cf,.slice none 0 0]) 67 2 infoFl2 (.tmp 10) (.tmp 24) rfl rfl rfl rfl rfl rfl rfl ?_))
 have HA:=Zb v3 (.cells #[.slice pf ls.length cf,.slice none 0 0] 67);have HF:Hid (Blk 67 (v3.alloc (.cells #[.slice pf ls.length cf,.slice none 0 0] 67)) v3.heap.size [.slice pf ls.length cf,.slice none 0 0]):=Za (Blk.new v3 _ _);have Hi:Hid (QK≠O∧QZ≠O):=Za (by have:=HP.out;omega);have Hj:Hid (w.heap.size≤O∧O<v2.heap.size):=Za (by have:=HP.out;have:=Ht.out;omega);have hk3:=HM.out.2.2.2.1;have HG:Hid (∀g,(Value.slice pf ls.length cf).ownBlock=some g→O+1<g∧g<v3.heap.size):=Za (fun g e=>by have:=World.ownsRow.lt HM.out.2.1 g e;have:=Hj.out;omega);have Hr:Hid (O<v3.heap.size):=Za (Nat.lt_of_lt_of_le Hj.out.2 hk3.size);have HR:=Za ((HM.out.2.1.weak (K':=O+1) (by have:=Hj.out;omega)).later HA);replace HK:=Za ((hk3.blk Hi.out.1 HK.out).later HA);replace HZ:=Za ((hk3.blk Hi.out.2 HZ.out).later HA);replace HD:=Za (HM.out.1.later HA);replace HB:=Za (Zc (DK.below HB.out hk3 Hj.out.1 HB.out.size) HA);clear hk3 HM HA Ht;generalize v3.alloc (.cells #[.slice pf ls.length cf,.slice none 0 0] 67)=v4 at *;generalize v3.heap.size=QF at *;have Hk:Hid (QF≠O):=Za (by have:=Hr.out;omega);have T1:Hid True:=trivial;have T2:Hid True:=trivial
 go_upto_region 4 with(first
  |(go_at_call 67;clear T1;refine(dN 3 hl HD.out).mono ?_;rintro e v5 ⟨⟨x,rfl,x0,x1⟩,hD,hK,hsz⟩;replace HD:=Za hD;replace HK:=Za (hK.blk Hi.out.1 HK.out);replace HZ:=Za (hK.blk Hi.out.2 HZ.out);replace HF:=Za (hK.blk Hk.out HF.out);replace HR:=Za (HR.out.dk (Nat.lt_succ_self O) hK);replace HB:=Za (DK.below HB.out hK Hj.out.1 HB.out.size);have vx:=Wr (x-1);clear hsz hD hK)
  |(go_at_call 67;clear T2;refine(dN 3 hl HD.out).mono ?_;rintro e v6 ⟨⟨y,rfl,y0,y1⟩,hD,hK,hsz⟩;replace HD:=Za hD;replace HK:=Za (hK.blk Hi.out.1 HK.out);replace HZ:=Za (hK.blk Hi.out.2 HZ.out);replace HF:=Za (hK.blk Hk.out HF.out);replace HR:=Za (HR.out.dk (Nat.lt_succ_self O) hK);replace HB:=Za (DK.below HB.out hK Hj.out.1 HB.out.size);have vy:=Wr (y-1);clear hsz hD hK)
  |(refine isStoreT 76 _ _ rfl ?_;refine N4 (c':=#[Vi (x-1),Vi (y-1)]) 76 2 infoI2' (.tmp 11) (.tmp 31) rfl rfl rfl rfl rfl rfl rfl ?_))
 have HA:=Zb v6 (.cells #[Vi (x-1),Vi (y-1)] 76);have HL:Hid (Blk 76 (v6.alloc (.cells #[Vi (x-1),Vi (y-1)] 76)) v6.heap.size [Vi (x-1),Vi (y-1)]):=Za (Blk.new v6 _ _);have Hc:Hid (FP w QK QZ O QF v6.heap.size (v6.heap.size+1) a l (.slice pf ls.length cf)):=Za ⟨by have:=HP.out;omega,by have:=HP.out;omega,Hr.out,HF.out.lt,Nat.lt_succ_self _,Hq.out,fun g e=>by have:=HG.out g e;have:=HF.out.lt;omega⟩;have HV:Hid (FV C w (v6.alloc (.cells #[Vi (x-1),Vi (y-1)] 76)) QK QZ O QF v6.heap.size (v6.heap.size+1) a l cap (q+1+1) (.slice pf ls.length cf) ls (x-1) (y-1) (.slice none 0 0) []):=Za ⟨HD.out.later HA,HK.out.later HA,HZ.out.later HA,HF.out.later HA,HL.out,HR.out.later HA,RwO.nil _ _ _ _ _,Zc HB.out HA,by rw[World.size_alloc];exact Nat.le_refl _⟩;clear HA HD HK HZ HF HL HR HB HG Hr Hk Hi Hj Hq HP;generalize v6.alloc (.cells #[Vi (x-1),Vi (y-1)] 76)=v7 at *;generalize v6.heap.size=QL at *;obtain⟨x',hx'⟩:∃x',x'=x-1:=⟨_,rfl⟩;obtain⟨y',hy'⟩:∃y',y'=y-1:=⟨_,rfl⟩;rw[←hx',←hy'] at HV
 have bx:-1≤x'∧x'≤1:=by omega
 have bY:-1≤y'∧y'≤1:=by omega
 clear hx' hy' x0 x1 y0 y1 vx vy
 go_upto_region 5 with fail
 go_loopw [12] (fun ix wr=>∃(k q:Nat) (v:Value) (ss:List Stp),k≤many∧ix=Vi k∧FV C w wr QK QZ O QF QL (QL+1) a l cap q (.slice pf ls.length cf) ls x' y' v ss∧ss.length=k∧StsOK C ss∧q≤200+40*k) (fun ix _=>many-(intOf ix).toNat)
 case atStart=>exact⟨0,_,_,[],by omega,rfl,HV.out,rfl,StsOK.nil C,by omega⟩
 case round=>
  clear HV hq;obtain⟨k,q,v,ss,hk,rfl,hV,hn,hsok,hq⟩:=hrel;have HV:=Za hV;have Ho:=Za hsok;clear hV hsok
  by_cases hlt:k<many
  · have k0:(0:Int)≤(k:Int):=by omega
    have k1:(k:Int)<(many:Int):=by omega
    have T1:Hid True:=trivial;have T2:Hid True:=trivial;have T3:Hid True:=trivial
    go_upto_region 8 with(first
     |(go_at_call 70;clear T1;refine(Nd O a l cap _ 1200 262144 1200 262144 (by omega) hl (by omega) _ HV.out.d).mono ?_;rintro e v8 ⟨⟨m,rfl,m0,m1⟩,hD,hK⟩;replace HV:=Za (HV.out.dk Hc.out hD hK);clear hD hK)
     |(go_at_call 67;clear T2;refine(dN _ hl HV.out.d).mono ?_;rintro e v9 ⟨⟨sp,rfl,sp0,sp1⟩,hD,hK,hsz⟩;replace HV:=Za (HV.out.dk Hc.out hD hK);clear hsz hD hK)
     |(go_at_call 67;clear T3;refine(dN _ hl HV.out.d).mono ?_;rintro e v10 ⟨⟨gr,rfl,gr0,gr1⟩,hD,hK,hsz⟩;replace HV:=Za (HV.out.dk Hc.out hD hK);clear hsz hD hK)
     |(refine isStoreT 78 _ _ rfl ?_;refine N4 (c':=(stpL ({ k:=fun _=>0,p:=fun _=>0,z:=fun _=>0,v:=sp,g:=gr==0 }:Stp)).toArray) 78 8 Ud (.tmp 13) (.tmp 45) rfl rfl rfl rfl rfl rfl rfl ?_))
    have HS:Hid (Blk 78 (v10.alloc (.cells #[Vi 0,Vi 0,Vi 0,Vi 0,Vi 0,Vi 0,Vi sp,.bool (gr==0)] 78)) v10.heap.size (stpL ({ k:=fun _=>0,p:=fun _=>0,z:=fun _=>0,v:=sp,g:=gr==0 }:Stp))):=Za (Blk.new v10 _ _);have Hl:Hid (QL+1≤v10.heap.size∧∀g,v.ownBlock=some g→g≠v10.heap.size):=Za ⟨HV.out.h,fun g e=>by have:=(World.ownsRow.lt HV.out.t g e).2;omega⟩;replace HV:=Za (HV.out.later Hc.out (Zb v10 (.cells #[Vi 0,Vi 0,Vi 0,Vi 0,Vi 0,Vi 0,Vi sp,.bool (gr==0)] 78)));have Hg:Hid (SA C ({ k:=fun _=>0,p:=fun _=>0,z:=fun _=>0,v:=sp,g:=gr==0 }:Stp)):=Za ⟨fun i hi=>⟨by dsimp only;omega,by dsimp only;omega⟩,fun i hi=>by have:=(Z9 hcr hi).2;dsimp only;omega,fun i hi=>by dsimp only;omega,by dsimp only;omega⟩;generalize v10.alloc (.cells #[Vi 0,Vi 0,Vi 0,Vi 0,Vi 0,Vi 0,Vi sp,.bool (gr==0)] 78)=v11 at *;generalize v10.heap.size=QS at *;have Hm:Hid (QS≠O):=Za (by have:=Hl.out.1;have:=Hc.out.o;have:=Hc.out.f;omega)
    go_upto_region 9 with fail
    go_loopw [14] (fun ix wr=>∃(i q':Nat) (st:Stp),i≤2∧ix=Vi i∧FV C w wr QK QZ O QF QL (QL+1) a l cap q' (.slice pf ls.length cf) ls x' y' v ss∧Blk 78 wr QS (stpL st)∧SA C st∧q'≤q+3+10*i) (fun ix _=>2-(intOf ix).toNat)
    case atStart=>exact⟨0,_,_,by omega,rfl,HV.out,HS.out,Hg.out,by omega⟩
    case round=>
     clear HV HS Hg;obtain⟨i,q',st,hi,rfl,hV,hS,hSA,hq'⟩:=hrel;have HV:=Za hV;have HS:=Za hS;have Hg:=Za hSA;clear hV hS hSA
     by_cases hi2:i<2
     · have i0:(0:Int)≤(i:Int):=by omega
       have i1:(i:Int)<2:=by omega
       obtain⟨n0,n1⟩:=cr_noise hcr hi2;obtain⟨p0,p1⟩:=(Z9 hcr hi2).2;obtain⟨⟨b0,b1⟩,b2,b3⟩:=base3 n0 n1;have vb2:=Wr ((2*C.a i 2+1)*(2*C.a i 2+1));have vb3:=Wr ((2*C.a i 2+1)*(2*C.a i 2+1)*(2*C.a i 2+1));have Hs:=Za (HV.out.k.sub (i*15) 15);rw[cr_axi C hi2] at Hs;have HA:=Zb wr (.cells (axL C i).toArray 26);have Hb:Hid (Blk 26 (wr.alloc (.cells (axL C i).toArray 26)) wr.heap.size (axL C i)):=Za (Blk.new wr _ _);have HQ:Hid (wr.heap.size≠O∧wr.heap.size≠QS):=Za (by have:=HV.out.d.lt;have:=HS.out.lt;omega);replace HV:=Za (HV.out.later Hc.out HA);replace HS:=Za (HS.out.later HA);clear HA
       go_upto_region 12 with(first
        |(refine Lm 26 (.tmp 52) rfl QK (i*15) (axL C i) Hs.out underlying26 Zs ?_)
        |(refine Sq 26 _ _ rfl ?_;refine Xy (c':=(axL C i).toArray) (.tmp 15) (.tmp 53) rfl rfl rfl rfl rfl rfl (Zn _ rfl) ?_))
       clear Hs;generalize wr.alloc (.cells (axL C i).toArray 26)=v12 at *;generalize wr.heap.size=QA at Hb HQ⊢;replace HV:=Za (HV.out.later Hc.out (Below.refl _ v12).drew);replace HS:=Za (HS.out.later (Below.refl _ v12).drew);replace Hb:=Za (Hb.out.later (Below.refl _ v12).drew);refine wp_region_held_drew (S:=fun u=>(u.rangeAt QA 0 (axL C i))) (by kernel_rfl) (Hb.out.range) (fun _=>?_);have Ha:Hid ((v12.drew.rangeAt QA 0 (axL C i))):=Za (Hb.out.range);generalize v12.drew=u0 at Ha HV HS Hb⊢;refine Tk 0 rfl (yieldsIf_load_mid (by rfl) 26 (.tmp 15) rfl QA 0 rfl (axL C i) _ (fun w hSw=>hSw) underlying26 rfl Zs) Ha.out ?_;simp only[Act.put,Ly];refine Tk 2 rfl (yieldsIf_load_mid (by rfl) 26 (.tmp 15) rfl QA 0 rfl (axL C i) _ (fun w hSw=>hSw) underlying26 rfl Zs) Ha.out ?_;simp only[Act.put,Ly];refine Tk 5 rfl (yieldsIf_load_mid (by rfl) 26 (.tmp 15) rfl QA 0 rfl (axL C i) _ (fun w hSw=>hSw) underlying26 rfl Zs) Ha.out ?_;simp only[Act.put,Ly];refine Ra 1 (fun K hK=>?_);go_simp;refine Sb (base_any C i n0 n1 _) fun u1 hb=>?_;replace HV:=Za (HV.out.later Hc.out hb);replace HS:=Za (HS.out.later hb);replace Hb:=Za (Hb.out.later hb);have Hd:Hid (u1.rangeAt QA 0 (axL C i)):=Za Hb.out.range;clear hb;refine hK.out _ _ Hd.out (fun _=>?_);clear hK K;refine Ra 3 (fun K hK=>?_);go_simp;refine Sb (base_any C i n0 n1 _) fun u2 hb=>?_;replace HV:=Za (HV.out.later Hc.out hb);replace HS:=Za (HS.out.later hb);replace Hb:=Za (Hb.out.later hb);have Hh:Hid (u2.rangeAt QA 0 (axL C i)):=Za Hb.out.range;clear hb;refine hK.out _ _ Hh.out (fun _=>?_);clear hK K;clear Hd;refine Tq 4 Hh.out ?_;simp only[Act.put,Ly];refine Ra 6 (fun K hK=>?_);go_simp;refine Sb (base_any C i n0 n1 _) fun u3 hb=>?_;replace HV:=Za (HV.out.later Hc.out hb);replace HS:=Za (HS.out.later hb);replace Hb:=Za (Hb.out.later hb);have Hf:Hid (u3.rangeAt QA 0 (axL C i)):=Za Hb.out.range;clear hb;refine hK.out _ _ Hf.out (fun _=>?_);clear hK K;clear Hh;refine Tq 7 Hf.out ?_;simp only[Act.put,Ly];refine Tq 8 Hf.out ?_;simp only[Act.put,Ly];refine Dn ?_;go_simp;clear Hf;generalize u3=v13 at HV HS Hb⊢
       refine Ek ?_;clear vb2 vb3 b0 b1;generalize (2*C.a i 2+1)*(2*C.a i 2+1)*(2*C.a i 2+1)=M at b2 b3⊢
       obtain⟨L,hL,L0,L1⟩:∃L:Int,([Vi x',Vi y']:List Value)[i]?=some (Vi L)∧-1≤L∧L≤1:=by
        rcases Qtw i with rfl|rfl
        · exact⟨x',rfl,bx.1,bx.2⟩
        · exact⟨y',rfl,bY.1,bY.2⟩
       have v100:=Wr (100*L)
       go_upto_region 13 with fail;replace HV:=Za (HV.out.later Hc.out (Below.refl _ v13).drew);replace HS:=Za (HS.out.later (Below.refl _ v13).drew);replace Hb:=Za (Hb.out.later (Below.refl _ v13).drew);refine wp_region_held_drew (S:=fun u=>(Kc u QL i (Vi L))) (by kernel_rfl) ((HV.out.e.cell hL).1) (fun _=>?_);have Ha:Hid ((v13.drew.cell? (Ad QL i)=some (Vi L))):=Za ((HV.out.e.cell hL).1);generalize v13.drew=u0 at Ha HV HS Hb⊢;refine Tq 0 Ha.out ?_;simp only[Act.put,Ly];refine Tq 1 Ha.out ?_;simp only[Act.put,Ly];refine Tq 2 Ha.out ?_;simp only[Act.put,Ly];refine Tq 3 Ha.out ?_;simp only[Act.put,Ly];refine Th 4 rfl (by intro w hSw;(try dsimp only at hSw);have xt:=hSw;clear hSw;go_simp;(try with_reducible rfl)) Ha.out ?_;simp only[Act.put,Ly];refine Tq 5 Ha.out ?_;simp only[Act.put,Ly];refine Tq 6 Ha.out ?_;simp only[Act.put,Ly];refine Tq 7 Ha.out ?_;simp only[Act.put,Ly];refine Th 8 rfl (by intro w hSw;(try dsimp only at hSw);have xt:=hSw;clear hSw;go_simp;(try with_reducible rfl)) Ha.out ?_;simp only[Act.put,Ly];refine Tq 9 Ha.out ?_;simp only[Act.put,Ly];refine Tq 10 Ha.out ?_;simp only[Act.put,Ly];refine Tq 15 Ha.out ?_;simp only[Act.put,Ly];refine Ra 11 (fun K hK=>?_);go_simp;refine(dN 201 hl HV.out.d).mono ?_;rintro e u1 ⟨⟨r,rfl,r0,r1⟩,hD,hK2,hsz⟩;replace HV:=Za (HV.out.dk Hc.out hD hK2);replace HS:=Za (hK2.blk Hm.out HS.out);replace Hb:=Za (hK2.blk HQ.out.1 Hb.out);have Hd:Hid (Kc u1 QL i (Vi L)):=Za (HV.out.e.cell hL).1;clear hD hK2 hsz;have vr:=Wr (r-100);refine hK.out _ _ Hd.out (fun _=>?_);clear hK K;refine Tq 12 Hd.out ?_;simp only[Act.put,Ly];refine Ra 13 (fun K hK=>?_);go_simp;have Hh:=Za (keepC (Zb u1 (.cells #[Vi (100*L),Vi (100*L),Vi (r-100)] 3)) Hd.out);refine hK.out _ _ Hh.out (fun _=>?_);clear hK K;clear Hd;refine Ra 14 (fun K hK=>?_);go_simp;refine(Uc O a l cap _ (100*L) (100*L) (r-100) (-100) 100 (by omega) hl (by omega) _ HV.out.d).mono ?_;rintro e u3 ⟨⟨s,rfl,s0,s1⟩,hD,hK2⟩;replace HV:=Za (HV.out.dk Hc.out hD hK2);replace HS:=Za (hK2.blk Hm.out HS.out)
       replace Hb:=Za (hK2.blk HQ.out.1 Hb.out);have Hf:Hid (Kc u3 QL i (Vi L)):=Za (HV.out.e.cell hL).1;clear hD hK2;refine hK.out _ _ Hf.out (fun _=>?_);clear hK K;clear Hh;refine Tq 16 Hf.out ?_;simp only[Act.put,Ly];refine Ra 17 (fun K hK=>?_);have k1:=HS.out.cell (stpk_at st hi2);have k2:=k1.2;replace k1:=k1.1;go_simp;have hO9:Oth u3 (u3.setCell (Ad QS i) (Vi s)) QS:=(Oth.refl u3 QS).set;replace HV:=Za (HV.out.oth Hc.out hO9 Hl.out.1 Hl.out.2);replace Hb:=Za (hO9.mblk HQ.out.2 Hb.out);replace HS:=Za (stpk_set (x:=s) hi2 (HS.out.set (i) (Vi s)));generalize u3.setCell (Ad QS i) (Vi s)=u4 at HV HS Hb⊢;have Hp:Hid (Kc u4 QL i (Vi L)):=Za (HV.out.e.cell hL).1;clear k1 k2 hO9;refine hK.out _ _ Hp.out (fun _=>?_);clear hK K;clear Hf;refine Dn ?_;go_simp;clear Hp;generalize u4=v14 at HV HS Hb⊢;refine Ek ?_;clear v100 vr;replace Hg:=Za (SA.setK Hg.out hi2 s0 s1);generalize stK st i s=st at HS Hg;obtain⟨l0,l1⟩:=lean_bd p0 L0 L1;have vl:=Wr (C.a i 3*L);have vn:=Wr (-C.a i 3);have v2p:=Wr (2*C.a i 3);have v2q:=Wr (2*C.a i 3+1)
       go_upto_region 14 with fail;replace HV:=Za (HV.out.later Hc.out (Below.refl _ v14).drew);replace HS:=Za (HS.out.later (Below.refl _ v14).drew);replace Hb:=Za (Hb.out.later (Below.refl _ v14).drew);refine wp_region_held_drew (S:=fun u=>(Kc u QL i (Vi L)∧Kc u QA 3 (Vi (C.a i 3)))) (by kernel_rfl) (⟨(HV.out.e.cell hL).1,(Hb.out.cell (j:=3) rfl).1⟩) (fun _=>?_);have Ha:Hid ((v14.drew.cell? (Ad QL i)=some (Vi L)∧v14.drew.cell? (Ad QA 3)=some (Vi (C.a i 3)))):=Za (⟨(HV.out.e.cell hL).1,(Hb.out.cell (j:=3) rfl).1⟩);generalize v14.drew=u0 at Ha HV HS Hb⊢;refine Tq 0 Ha.out ?_;simp only[Act.put,Ly];refine Tq 1 Ha.out ?_;simp only[Act.put,Ly];refine Tq 2 Ha.out ?_;simp only[Act.put,Ly];refine Th 3 rfl (by intro w hSw;(try dsimp only at hSw);have xt:=hSw.1;have xu:=hSw.2;clear hSw;go_simp;(try with_reducible rfl)) Ha.out ?_;simp only[Act.put,Ly];refine Tq 4 Ha.out ?_;simp only[Act.put,Ly];refine Tq 5 Ha.out ?_;simp only[Act.put,Ly];refine Th 6 rfl (by intro w hSw;(try dsimp only at hSw);have xt:=hSw.1;have xu:=hSw.2;clear hSw;go_simp;(try with_reducible rfl)) Ha.out ?_;simp only[Act.put,Ly];refine Tq 7 Ha.out ?_;simp only[Act.put,Ly];refine Tq 8 Ha.out ?_;simp only[Act.put,Ly];refine Th 9 rfl (by intro w hSw;(try dsimp only at hSw);have xt:=hSw.1;have xu:=hSw.2;clear hSw;go_simp;(try with_reducible rfl)) Ha.out ?_;simp only[Act.put,Ly];refine Tq 10 Ha.out ?_;simp only[Act.put,Ly];refine Tq 11 Ha.out ?_;simp only[Act.put,Ly];refine Th 12 rfl (by intro w hSw;(try dsimp only at hSw);have xt:=hSw.1;have xu:=hSw.2;clear hSw;go_simp;(try with_reducible rfl)) Ha.out ?_;simp only[Act.put,Ly];refine Tq 13 Ha.out ?_;simp only[Act.put,Ly];refine Tq 14 Ha.out ?_;simp only[Act.put,Ly];refine Th 15 rfl (by intro w hSw;(try dsimp only at hSw);have xt:=hSw.1;have xu:=hSw.2;clear hSw;go_simp;(try with_reducible rfl)) Ha.out ?_;simp only[Act.put,Ly];refine Tq 16 Ha.out ?_;simp only[Act.put,Ly];refine Th 17 rfl (by intro w hSw;(try dsimp only at hSw);have xt:=hSw.1;have xu:=hSw.2;clear hSw;go_simp;(try with_reducible rfl)) Ha.out ?_;simp only[Act.put,Ly];refine Tq 18 Ha.out ?_;simp only[Act.put,Ly];refine Tq 19 Ha.out ?_;simp only[Act.put,Ly];refine Tq 20 Ha.out ?_;simp only[Act.put,Ly]
       refine Th 21 rfl (by intro w hSw;(try dsimp only at hSw);have xt:=hSw.1;have xu:=hSw.2;clear hSw;go_simp;(try with_reducible rfl)) Ha.out ?_;simp only[Act.put,Ly];refine Tq 22 Ha.out ?_;simp only[Act.put,Ly];refine Tq 23 Ha.out ?_;simp only[Act.put,Ly];refine Tq 25 Ha.out ?_;simp only[Act.put,Ly];refine Th 26 rfl (by intro w hSw;(try dsimp only at hSw);have xt:=hSw.1;have xu:=hSw.2;clear hSw;go_simp;(try with_reducible rfl)) Ha.out ?_;simp only[Act.put,Ly];refine Tq 30 Ha.out ?_;simp only[Act.put,Ly];refine Ra 24 (fun K hK=>?_);go_simp;refine(dN (2*C.a i 3+1) hl HV.out.d).mono ?_;rintro e u1 ⟨⟨pp,rfl,pp0,pp1⟩,hD,hK2,hsz⟩;replace HV:=Za (HV.out.dk Hc.out hD hK2);replace HS:=Za (hK2.blk Hm.out HS.out);replace Hb:=Za (hK2.blk HQ.out.1 Hb.out);have Hd:Hid (Kc u1 QL i (Vi L)∧Kc u1 QA 3 (Vi (C.a i 3))):=Za ⟨(HV.out.e.cell hL).1,(Hb.out.cell (j:=3) rfl).1⟩;clear hD hK2 hsz;have vpp:=Wr (pp-C.a i 3);refine hK.out _ _ Hd.out (fun _=>?_);clear hK K;refine Tq 27 Hd.out ?_;simp only[Act.put,Ly];refine Ra 28 (fun K hK=>?_);go_simp;have Hh:=Za (And.intro (keepC (Zb u1 (.cells #[Vi (C.a i 3*L),Vi (C.a i 3*L),Vi (C.a i 3),Vi (-C.a i 3),Vi (pp-C.a i 3)] 3)) Hd.out.1) (keepC (Zb u1 (.cells #[Vi (C.a i 3*L),Vi (C.a i 3*L),Vi (C.a i 3),Vi (-C.a i 3),Vi (pp-C.a i 3)] 3)) Hd.out.2));refine hK.out _ _ Hh.out (fun _=>?_);clear hK K;clear Hd;refine Ra 29 (fun K hK=>?_);go_simp;refine(diceMost5 O a l cap _ (C.a i 3*L) (C.a i 3*L) (C.a i 3) (-C.a i 3) (pp-C.a i 3) (-C.a i 3) (C.a i 3) (by omega) hl (by omega) _ HV.out.d).mono ?_;rintro e u3 ⟨⟨s2,rfl,s20,s21⟩,hD,hK2⟩;replace HV:=Za (HV.out.dk Hc.out hD hK2);replace HS:=Za (hK2.blk Hm.out HS.out);replace Hb:=Za (hK2.blk HQ.out.1 Hb.out);have Hf:Hid (Kc u3 QL i (Vi L)∧Kc u3 QA 3 (Vi (C.a i 3))):=Za ⟨(HV.out.e.cell hL).1,(Hb.out.cell (j:=3) rfl).1⟩;clear hD hK2;refine hK.out _ _ Hf.out (fun _=>?_);clear hK K;clear Hh;refine Tq 31 Hf.out ?_;simp only[Act.put,Ly];refine Ra 32 (fun K hK=>?_);have k1:=HS.out.cell (stpp_at st hi2)
       have k2:=k1.2;replace k1:=k1.1;go_simp;have hO9:Oth u3 (u3.setCell (Ad QS (2+i)) (Vi s2)) QS:=(Oth.refl u3 QS).set;replace HV:=Za (HV.out.oth Hc.out hO9 Hl.out.1 Hl.out.2);replace Hb:=Za (hO9.mblk HQ.out.2 Hb.out);replace HS:=Za (stpp_set (x:=s2) hi2 (HS.out.set (2+i) (Vi s2)));generalize u3.setCell (Ad QS (2+i)) (Vi s2)=u4 at HV HS Hb⊢;have Hp:Hid (Kc u4 QL i (Vi L)∧Kc u4 QA 3 (Vi (C.a i 3))):=Za ⟨(HV.out.e.cell hL).1,(Hb.out.cell (j:=3) rfl).1⟩;clear k1 k2 hO9;refine hK.out _ _ Hp.out (fun _=>?_);clear hK K;clear Hf;refine Dn ?_;go_simp;clear Hp;generalize u4=v15 at HV HS Hb⊢;refine Ek ?_;clear vl vn v2p v2q vpp;replace Hg:=Za (SA.setP Hg.out hi2 s20 s21);generalize stP st i s2=st at HS Hg;have vM:=Wr (M-1);have T1:Hid True:=trivial;have T2:Hid True:=trivial;have T3:Hid True:=trivial
       go_wp2_with (first
        |(go_at_call 67;clear T1;refine(dN M hl HV.out.d).mono ?_;rintro e v16 ⟨⟨r1,rfl,r10,r11⟩,hD,hK,hsz⟩;replace HV:=Za (HV.out.dk Hc.out hD hK);replace HS:=Za (hK.blk Hm.out HS.out);clear hsz hD hK)
        |(go_at_call 67;clear T2;refine(dN M hl HV.out.d).mono ?_;rintro e v17 ⟨⟨r2,rfl,r20,r21⟩,hD,hK,hsz⟩;replace HV:=Za (HV.out.dk Hc.out hD hK);replace HS:=Za (hK.blk Hm.out HS.out);clear hsz hD hK)
        |(go_at_call 70;clear T3;refine(diceMost4 O a l cap _ 0 (M-1) r1 r2 0 (M-1) (by omega) hl (by omega) _ HV.out.d).mono ?_;rintro e v18 ⟨⟨s3,rfl,s30,s31⟩,hD,hK⟩;replace HV:=Za (HV.out.dk Hc.out hD hK);replace HS:=Za (hK.blk Hm.out HS.out);clear hD hK;have k1:=HS.out.cell (stpz_at st hi2);have k2:=k1.2;replace k1:=k1.1))
       have hO9:Oth v18 (v18.setCell (Ad QS (4+i)) (Vi s3)) QS:=(Oth.refl v18 QS).set;exact⟨⟨i+1,_,stZ st i s3,by omega,by go_num,HV.out.oth Hc.out hO9 Hl.out.1 Hl.out.2,stpz_set hi2 (HS.out.set (4+i) (Vi s3)),SA.setZ Hg.out hi2 s30 (by omega),by omega⟩,by simp[intOf];omega⟩
     · obtain rfl:i=2:=by omega
       obtain⟨ps,cs,rfl⟩:=HV.out.t.slice;have f1:=(HV.out.f.cell (j:=1) rfl).1;have Hx:=Za HS.out.range;have Hy:Hid (ss.length≤1000):=Za (by omega);have hsl:=stpL_len st;have Hn:=Za (HV.out.later Hc.out (Zb wr (.cells (stpL st).toArray 78)));have Hz:=Za Hn.out.t;have HC:=Za Hn.out.h;have HE:=Za (lay_stp wr st);have HN:=Za hn;clear HV HS hn
       go_upto_region 16 with fail
       go_wp2_with (first
        |(refine Lm 78 (.tmp 13) rfl QS 0 [Vi (st.k 0),Vi (st.k 1),Vi (st.p 0),Vi (st.p 1),Vi (st.z 0),Vi (st.z 1),Vi st.v,.bool st.g] Hx.out underlying78 Ud ?_)
        |(at_builtin;refine wpList_apS (r:=st) (.tmp 126) (.tmp 128) rfl rfl Hz.out HC.out HE.out Hy.out (fun s' v9 h1 h2=>?_);obtain⟨p9,c9,rfl⟩:=RwO.slice h1;clear f1;have hF2:=(Hn.out.fgrew Hc.out h2).cell (j:=1) rfl;have f2:=hF2.1;have f3:=hF2.2;replace Hn:=Za (Hn.out.push Hc.out h2 h1);clear h1 h2 hF2))
       simp only[List.length_append,List.length_cons,List.length_nil,Nat.zero_add] at Hn;exact⟨⟨k+1,q',_,ss++[st],by omega,by go_num,Hn.out,by rw[List.length_append,HN.out];rfl,Ho.out.app Hg.out,by omega⟩,by simp[intOf];omega⟩
  · obtain rfl:k=many:=by omega
    obtain⟨ps,cs,rfl⟩:=HV.out.t.slice;have f0:=(HV.out.f.cell (j:=0) rfl).1;have f1:=(HV.out.f.cell (j:=1) rfl).1;have z0:=(HV.out.z.cell (j:=0) rfl).1;have z1:=(HV.out.z.cell (j:=1) rfl).1;have z2:=(HV.out.z.cell (j:=0) rfl).2;have z3:=(HV.out.z.cell (j:=1) rfl).2
    have HZ:Hid (Blk 67 (wr.setCells QZ 0 [.slice pf ls.length cf,.slice ps ss.length cs]) QZ [.slice pf ls.length cf,.slice ps ss.length cs]):=by
     have h:=Blk.setCells [.slice pf ls.length cf,.slice ps ss.length cs] 0 wr _ HV.out.z;exact Za h
    have HO:Hid (Oth wr (wr.setCells QZ 0 [.slice pf ls.length cf,.slice ps ss.length cs]) QZ):=Za (by
     have h:=((Oth.refl wr QZ).set (j:=0) (v:=.slice pf ls.length cf)).set (j:=1) (v:=.slice ps ss.length cs)
     exact h)
    have HH:=Za (HV.out.r.far HO.out (fun g e=>by have:=Hc.out.g g e;have:=Hc.out.z;omega)).fts;have HI:=Za (HV.out.t.far HO.out (fun g e=>by have:=(World.ownsRow.lt HV.out.t g e).1;have:=Hc.out.z;have:=Hc.out.o;have:=Hc.out.f;omega)).sts;have HJ:=Za (HV.out.b.grown HO.out.grown HV.out.b.size (fun g e=>by cases e;have:=Hc.out.k;omega));have HT:Hid (FlOK C ls ss):=Za ⟨hcr,by omega,by omega,Hw.out,Ho.out⟩;clear hn;go_wp2_with fail;refine bodyPost_ret (v:=.agg #[.slice pf ls.length cf,.slice ps ss.length cs]) ?_ rfl ⟨⟨pf,cf,ls,ps,cs,ss,rfl,HT.out,HH.out,HI.out⟩,HJ.out⟩;exact res_flight _ _ QZ [.slice pf ls.length cf,.slice ps ss.length cs] rfl HZ.out.range rfl
def wdL(x:Int):List Value:=[.int .u32 x]
theorem wds_under:prog.underlying 42=some (.slice 136):=by kernel_rfl
abbrev WdO:=RwO wdL 1 136
theorem wdL_one(x:Int):∀v∈wdL x,v.oneCell'=true:=by
 intro v hv;have:(wdL x).all (·.oneCell')=true:=rfl;exact List.all_eq_true.1 this v hv
theorem WdO.wds(h:WdO K u (.slice a n c) l)(hl:∀x∈l,0≤x∧x<4294967296):Wds u a l:=by
 refine⟨?_,hl⟩
 by_cases h0:l=[]
 · exact .inl h0
 · obtain⟨g,e,hc⟩:=RwO.at (f:=wdL) (m:=1) 0 (fun _=>rfl) h h0;refine .inr ⟨g,0,e,fun k hk=>?_⟩;have:=hc k hk 0 _ rfl;rw[Nat.mul_one,Nat.add_zero] at this;rw[Nat.zero_add];exact this
theorem lay_wd(w:World)(r:Int):Lay (w.alloc (.cells #[.int .u32 r] 136)) (some (Ad w.heap.size 0)) (wdL r):=.inr ⟨_,0,rfl,(Blk.new w 136 (wdL r)).range⟩
section
variable {w u u' : World} {O : Nat} {a : Option Addr} {l : List Int} {cap q : Nat} {s : Value} {ws : List Int}
end
def spF(F:Ft)(r:Rd):Rd:=if F.2.1=1 then(r.1,r.2.1,r.2.2.1,F.2.2.2.2) else if F.2.1=2 then(r.1,r.2.1,r.2.2.1,cW (r.2.2.2+F.2.2.2.2)) else if F.2.1=3 then(r.1,r.2.1,0,r.2.2.2) else r
def sdF(b:Bool)(F:Ft)(r:Rd):List Rd:=if b then(if F.2.1=0 then[] else[spF F r]) else[r]
theorem chR_al(l:List Ft)(now ax k lab x:Int):chR l now ax k lab x=sdF (ail l now ax k false).isSome (alC (ail l now ax k false)) (lab,k,3,cW x):=by
 unfold chR
 cases ail l now ax k false<;>rfl
theorem alC_bd(o:Option Ft):-262144≤(alC o).2.2.2.2∧(alC o).2.2.2.2<262144:=by
 cases o with
 |none=>decide
 |some f=>exact cD_bd _
theorem lay_one(w:World)(r:Int):Lay (w.alloc (.cells #[.int .u32 r] 136)) (some (Ad w.heap.size 0)) ([r].flatMap wdL):=lay_wd w r
theorem rsaid_any(pf:Option Addr)(cf:Nat)(l:List Ft)(now ax k lab x:Int)(hl:l.length≤1000)(h1:0≤lab∧lab<256)(h2:0≤k∧k<4)(w:World)(hf:Fts w pf l):
 Calls prog 73 #[.slice pf l.length cf,Vi now,Vi ax,Vi k,Vi lab,Vi x] w fun e w'=>(∃p c,e=.returned (.slice p (chR l now ax k lab x).length c)∧Lay w' p (((chR l now ax k lab x).map pk1).flatMap wdL))∧Bw w w':=by
 rw[chR_al];have hcl:=fun(x:Int)=>Yr x (-262144) 262143 (by omega);have hwd:=fun(c d:Int) (hc:0≤c∧c<4) (hd:-262144≤d∧d<262144)=>word_any lab k c d (X1 h1 h2 hc hd);have hai:=fun u (h:Bw w u)=>ails_any pf cf l now ax k false hl u (hf.later h);have hF:=alC_bd (ail l now ax k false);have hd:=cW_bd x;have hcx:∀u,Calls prog 94 #[Vi x,Vi (-262144),Vi 262143] u (Re u (Vi (cW x))):=hcl x;generalize cW x=d at *;generalize alC (ail l now ax k false)=F at *;generalize (ail l now ax k false).isSome=b at *;obtain⟨fa,fk,fx,fu,fi⟩:=F
 unfold ftL at hai
 dsimp only at hF hai
 have Hb:=Za hai;have Ha:=Za hwd;clear hf hai hwd h1 h2
 go_enter func73,ntmps73
 go_upto_region 2 with(go_at_call 94;refine Sm (hcx _) ?_);have HR:Hid (Blk 161 (w.alloc (.cells #[Vi lab,Vi k,Vi 3,Vi d] 161)) w.heap.size [Vi lab,Vi k,Vi 3,Vi d]):=Za (Blk.new w _ _);have HB:=Za (Zb w (.cells #[Vi lab,Vi k,Vi 3,Vi d] 161));generalize w.alloc (.cells #[Vi lab,Vi k,Vi 3,Vi d] 161)=v0 at*
 go_upto_region 3 with(go_at_call 127;refine Sb (Hb.out _ HB.out) fun v1 hb=>?_;replace HR:=Za (HR.out.later hb);replace HB:=Za (Zc HB.out hb);clear hb);have HA:=Zb v1 (.cells #[Vi fa,Vi fk,Vi fx,Vi fu,Vi fi] 73);have HX:Hid (Blk 73 (v1.alloc (.cells #[Vi fa,Vi fk,Vi fx,Vi fu,Vi fi] 73)) v1.heap.size [Vi fa,Vi fk,Vi fx,Vi fu,Vi fi]):=Za (Blk.new v1 _ _);have Hc:Hid (v1.heap.size≠w.heap.size):=Za (by have:=HR.out.lt;omega);replace HR:=Za (HR.out.later HA);replace HB:=Za (Zc HB.out HA);clear HA Hb;generalize v1.alloc (.cells #[Vi fa,Vi fk,Vi fx,Vi fu,Vi fi] 73)=v2 at *;generalize v1.heap.size=QX at *;have x1:=(HX.out.cell (j:=1) rfl).1;have x4:=(HX.out.cell (j:=4) rfl).1;have y2:=HR.out.cell (j:=2) rfl;have y3:=HR.out.cell (j:=3) rfl;have HQ:=Hc.out
 have hnow:b=false∨(b=true∧fk=0)∨(b=true∧fk=1)∨(b=true∧fk=2)∨(b=true∧fk=3)∨(b=true∧¬fk=0∧¬fk=1∧¬fk=2∧¬fk=3):=by cases b<;>simp<;>omega
 rcases hnow with rfl|⟨rfl,rfl⟩|⟨rfl,rfl⟩|⟨rfl,rfl⟩|⟨rfl,rfl⟩|⟨rfl,n0,n1,n2,n3⟩
 case inr.inl=>
  go_wp2_with fail;go_ret;exact⟨⟨none,0,rfl,.inl rfl⟩,HB.out⟩
 case' inl=>
  go_upto_region 11 with fail;have HW:=Za (Ha.out 3 d (by omega) (by omega));have HE:Hid (sdF false (fa,fk,fx,fu,fi) (lab,k,3,d)=[(lab,k,3,d)]):=Za rfl
 case' inr.inr.inl=>
  go_upto_region 11 with fail;have HW:=Za (Ha.out 3 fi (by omega) (by omega));have HE:Hid (sdF true (fa,1,fx,fu,fi) (lab,k,3,d)=[(lab,k,3,fi)]):=Za rfl;replace HR:=Za (HR.out.set 3 (Vi fi));replace HB:=Za (HB.out.setCell (p:=⟨w.heap.size,3,none⟩) (Nat.le_refl _) (Vi fi));generalize v2.setCell _ _=v2 at*
 case' inr.inr.inr.inl=>
  have HV:=Wr (d+fi)
  go_upto_region 11 with(go_at_call 94;refine Sm (hcl _ _) ?_);have HW:=Za (Ha.out 3 (Ze (d+fi) (-262144) 262143) (by omega) (cW_bd (d+fi)));have HE:Hid (sdF true (fa,2,fx,fu,fi) (lab,k,3,d)=[(lab,k,3,Ze (d+fi) (-262144) 262143)]):=Za rfl;replace HR:=Za (HR.out.set 3 (Vi (Ze (d+fi) (-262144) 262143)));replace HB:=Za (HB.out.setCell (p:=⟨w.heap.size,3,none⟩) (Nat.le_refl _) (Vi (Ze (d+fi) (-262144) 262143)));clear HV;generalize v2.setCell _ _=v2 at *;generalize Ze (d+fi) (-262144) 262143=dd at*
 case' inr.inr.inr.inr.inl=>
  go_upto_region 11 with fail;have HW:=Za (Ha.out 0 d (by omega) (by omega));have HE:Hid (sdF true (fa,3,fx,fu,fi) (lab,k,3,d)=[(lab,k,0,d)]):=Za rfl;replace HR:=Za (HR.out.set 2 (Vi 0));replace HB:=Za (HB.out.setCell (p:=⟨w.heap.size,2,none⟩) (Nat.le_refl _) (Vi 0));generalize v2.setCell _ _=v2 at*
 case' inr.inr.inr.inr.inr=>
  go_upto_region 11 with fail;have HW:=Za (Ha.out 3 d (by omega) (by omega));have HE:Hid (sdF true (fa,fk,fx,fu,fi) (lab,k,3,d)=[(lab,k,3,d)]):=Za (by simp[sdF,spF,n0,n1,n2,n3])
 all_goals
  clear x1 x4 y2 y3 HX HQ Hc Ha hcl;have y0:=(HR.out.cell (j:=0) rfl).1;have y1:=(HR.out.cell (j:=1) rfl).1;have y2:=(HR.out.cell (j:=2) rfl).1;have y3:=(HR.out.cell (j:=3) rfl).1
  go_wp2_with (go_at_call 72;refine Sb (HW.out _) fun v3 hb=>?_;replace HB:=Za (Zc HB.out hb);clear hb y0 y1 y2 y3 HR);go_ret;exact⟨⟨some (Ad v3.heap.size 0),1,by rw[HE.out];rfl,by rw[HE.out];exact lay_one v3 _⟩,Zc HB.out (Zb v3 _)⟩
end Go.Proofs.YtnfdfiholcelaaaGreatDoor
