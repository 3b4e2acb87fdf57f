
import Derived.Test.YtnfdfiholcelaaaGreatDoorJh00
import Derived.Test.YtnfdfiholcelaaaGreatDoorJh26
import Derived.Test.YtnfdfiholcelaaaGreatDoorJh27
import Derived.Test.YtnfdfiholcelaaaGreatDoorJh28
set_option maxRecDepth 100000
set_option maxHeartbeats 20000000
namespace Go.Proofs.YtnfdfiholcelaaaGreatDoor
open Go.RowKit Plain Tryz
def FS.setN(S:FS)(x:Int):FS:={ S with n:=x }
def FS.setL(S:FS)(i:Nat)(x:Int):FS:={ S with bk:=upd S.bk i { S.bk i with l:=x } }
def FS.setB(S:FS)(i k:Nat)(x:Int):FS:={ S with bk:=upd S.bk i { S.bk i with b:=upd (S.bk i).b k x } }
def FS.setO(S:FS)(i k:Nat)(x:Bool):FS:={ S with bk:=upd S.bk i { S.bk i with o:=upd (S.bk i).o k x } }
def FS.setV(S:FS)(i:Nat)(p:Option Addr)(n c:Nat):FS:={ S with sp:=upd S.sp i p,sn:=upd S.sn i n,sc:=upd S.sc i c }
def FS.setA(S:FS)(i:Nat)(x:Int):FS:={ S with hd:=upd S.hd i (x,(S.hd i).2) }
def FS.setD(S:FS)(i:Nat)(x:Int):FS:={ S with hd:=upd S.hd i ((S.hd i).1,x,(S.hd i).2.2) }
def FS.setW(S:FS)(i:Nat)(x:Int):FS:={ S with hd:=upd S.hd i ((S.hd i).1,(S.hd i).2.1,x) }
theorem stl_at(S:FS){i:Nat}(hi:i<3):(stL S)[i*7+6]?=some (Vi (S.bk i).l):=by rcases(show i=0∨i=1∨i=2 by omega) with rfl|rfl|rfl<;>rfl
theorem stl_set{t:TypeId}{u:World}{B:Nat}{S:FS}{x:Int}{i:Nat}(hi:i<3)(h:Blk t u B ((stL S).set (i*7+6) (Vi x))):Blk t u B (stL (S.setL i x)):=by
 have e:(stL S).set (i*7+6) (Vi x)=stL (S.setL i x):=by rcases(show i=0∨i=1∨i=2 by omega) with rfl|rfl|rfl<;>rfl
 rwa[e] at h
theorem stb_at(S:FS){i k:Nat}(hi:i<3)(hk:k<3):(stL S)[i*7+k]?=some (Vi ((S.bk i).b k)):=by rcases(show i=0∨i=1∨i=2 by omega) with rfl|rfl|rfl<;>rcases(show k=0∨k=1∨k=2 by omega) with rfl|rfl|rfl<;>rfl
theorem stb_set{t:TypeId}{u:World}{B:Nat}{S:FS}{x:Int}{i k:Nat}(hi:i<3)(hk:k<3)(h:Blk t u B ((stL S).set (i*7+k) (Vi x))):Blk t u B (stL (S.setB i k x)):=by
 have e:(stL S).set (i*7+k) (Vi x)=stL (S.setB i k x):=by rcases(show i=0∨i=1∨i=2 by omega) with rfl|rfl|rfl<;>rcases(show k=0∨k=1∨k=2 by omega) with rfl|rfl|rfl<;>rfl
 rwa[e] at h
theorem sto_at(S:FS){i k:Nat}(hi:i<3)(hk:k<3):(stL S)[i*7+3+k]?=some (.bool ((S.bk i).o k)):=by rcases(show i=0∨i=1∨i=2 by omega) with rfl|rfl|rfl<;>rcases(show k=0∨k=1∨k=2 by omega) with rfl|rfl|rfl<;>rfl
theorem sto_set{t:TypeId}{u:World}{B:Nat}{S:FS}{x:Bool}{i k:Nat}(hi:i<3)(hk:k<3)(h:Blk t u B ((stL S).set (i*7+3+k) (.bool x))):Blk t u B (stL (S.setO i k x)):=by
 have e:(stL S).set (i*7+3+k) (.bool x)=stL (S.setO i k x):=by rcases(show i=0∨i=1∨i=2 by omega) with rfl|rfl|rfl<;>rcases(show k=0∨k=1∨k=2 by omega) with rfl|rfl|rfl<;>rfl
 rwa[e] at h
theorem sta_at(S:FS){i:Nat}(hi:i<2):(stL S)[23+i*3]?=some (Vi (S.hd i).1):=by rcases(show i=0∨i=1 by omega) with rfl|rfl<;>rfl
theorem sta_set{t:TypeId}{u:World}{B:Nat}{S:FS}{x:Int}{i:Nat}(hi:i<2)(h:Blk t u B ((stL S).set (23+i*3) (Vi x))):Blk t u B (stL (S.setA i x)):=by
 have e:(stL S).set (23+i*3) (Vi x)=stL (S.setA i x):=by rcases(show i=0∨i=1 by omega) with rfl|rfl<;>rfl
 rwa[e] at h
theorem sth_at(S:FS){i:Nat}(hi:i<2):(stL S)[23+i*3+1]?=some (Vi (S.hd i).2.1):=by rcases(show i=0∨i=1 by omega) with rfl|rfl<;>rfl
theorem sth_set{t:TypeId}{u:World}{B:Nat}{S:FS}{x:Int}{i:Nat}(hi:i<2)(h:Blk t u B ((stL S).set (23+i*3+1) (Vi x))):Blk t u B (stL (S.setD i x)):=by
 have e:(stL S).set (23+i*3+1) (Vi x)=stL (S.setD i x):=by rcases(show i=0∨i=1 by omega) with rfl|rfl<;>rfl
 rwa[e] at h
theorem stw_at(S:FS){i:Nat}(hi:i<2):(stL S)[23+i*3+2]?=some (Vi (S.hd i).2.2):=by rcases(show i=0∨i=1 by omega) with rfl|rfl<;>rfl
theorem stw_set{t:TypeId}{u:World}{B:Nat}{S:FS}{x:Int}{i:Nat}(hi:i<2)(h:Blk t u B ((stL S).set (23+i*3+2) (Vi x))):Blk t u B (stL (S.setW i x)):=by
 have e:(stL S).set (23+i*3+2) (Vi x)=stL (S.setW i x):=by rcases(show i=0∨i=1 by omega) with rfl|rfl<;>rfl
 rwa[e] at h
theorem stv_at(S:FS){i:Nat}(hi:i<2):(stL S)[21+i]?=some (.slice (S.sp i) (S.sn i) (S.sc i)):=by rcases(show i=0∨i=1 by omega) with rfl|rfl<;>rfl
structure SPs (w:World) (QK QZ O QB:Nat) (a:Option Addr) (l:List Int):Prop where
 k:w.heap.size≤QK∧QK<QZ
 z:QZ<O
 o:O<QB
 r:Zhe a l w.heap.size
structure SVm (C:CR) (w u:World) (QK QZ O QB:Nat) (a:Option Addr) (l:List Int) (cap q:Nat) (S:FS) (i:Nat) (sv:Nat→List Sv):Prop where
 d:Dc u O a l cap q
 k:Blk 29 u QK (crL C)
 z:Blk 41 u QZ zSt
 b:Blk 41 u QB (stL S)
 w:Below w.heap.size w u
 s:∀j,j<i→S.sn j=(sv j).length∧VLs u (S.sp j) (sv j)∧∀g off,S.sp j=some (Ad g off)→QB<g
section
variable {C : CR} {w u u' : World} {QK QZ O QB : Nat} {a : Option Addr} {l : List Int} {cap q : Nat} {S S' : FS} {i : Nat} {sv : Nat → List Sv}
theorem SVm.raw(p:SPs w QK QZ O QB a l)(h:SVm C w u QK QZ O QB a l cap q S i sv):Zhe a l u.heap.size:=fun b off e hl=>Nat.lt_of_lt_of_le (p.r b off e hl) h.w.size
theorem SVm.axis(h:SVm C w u QK QZ O QB a l cap q S i sv){j:Nat}(hj:j<2):u.rangeAt QK (j*15) (axL C j):=by
 have k:=h.k.sub (j*15) 15
 rwa[cr_axi C hj] at k
theorem below_oth{w u u':World}{B:Nat}(h:Below w.heap.size w u)(ho:Oth u u' B)(hB:w.heap.size≤B):Below w.heap.size w u':=
 ⟨ho.2.1.trans h.os,ho.2.2.1.trans h.tape,ho.2.2.2.1.trans h.output,Nat.le_trans h.size ho.1,fun k hk=>(ho.2.2.2.2 k (Nat.lt_of_lt_of_le hk h.size) (by omega)).trans (h.block k hk)⟩
theorem SVm.later(_p:SPs w QK QZ O QB a l)(h:SVm C w u QK QZ O QB a l cap q S i sv)(hb:Below u.heap.size u u'):SVm C w u' QK QZ O QB a l cap q S i sv:=
 ⟨h.d.later hb,h.k.later hb,h.z.later hb,h.b.later hb,Zac h.w hb,fun j hj=>⟨(h.s j hj).1,(h.s j hj).2.1.later hb,(h.s j hj).2.2⟩⟩
theorem SVm.dk{q':Nat}(p:SPs w QK QZ O QB a l)(h:SVm C w u QK QZ O QB a l cap q S i sv)(hd:Dc u' O a l cap q')(hk:DK O u u'):SVm C w u' QK QZ O QB a l cap q' S i sv:=by
 obtain⟨⟨p0,p1⟩,p2,p3,p4⟩:=p;have ho:=hk.oth;exact⟨hd,ho.mblk (by omega) h.k,ho.mblk (by omega) h.z,ho.mblk (by omega) h.b,below_oth h.w ho (by omega),fun j hj=>⟨(h.s j hj).1,ho.vls (fun g off e=>by have:=(h.s j hj).2.2 g off e;omega) (h.s j hj).2.1,(h.s j hj).2.2⟩⟩
theorem SVm.put(p:SPs w QK QZ O QB a l)(h:SVm C w u QK QZ O QB a l cap q S i sv)(hb:Blk 41 u' QB (stL S'))(ho:Oth u u' QB)(hs:∀j,j<i→S'.sp j=S.sp j∧S'.sn j=S.sn j):SVm C w u' QK QZ O QB a l cap q S' i sv:=by
 obtain⟨⟨p0,p1⟩,p2,p3,p4⟩:=p;refine⟨h.d.oth ho (by omega) (fun b off e hl=>by have:=p4 b off e hl;omega),ho.mblk (by omega) h.k,ho.mblk (by omega) h.z,hb,below_oth h.w ho (by omega),fun j hj=>?_⟩;obtain⟨e1,e2⟩:=hs j hj;rw[e1,e2];exact⟨(h.s j hj).1,ho.vls (fun g off e=>by have:=(h.s j hj).2.2 g off e;omega) (h.s j hj).2.1,(h.s j hj).2.2⟩
theorem SVm.putV{xs:Option Addr}{cp:Nat}{ls:List Sv}(p:SPs w QK QZ O QB a l)(hi:i<2)(h:SVm C w u QK QZ O QB a l cap q S i sv)(hb:Blk 41 u' QB ((stL S).set (21+i) (.slice xs ls.length cp)))(ho:Oth u u' QB)(hv:VLs u xs ls)(hx:∀g off,xs=some (Ad g off)→QB<g):SVm C w u' QK QZ O QB a l cap q (S.setV i xs ls.length cp) (i+1) (upd sv i ls):=by
 have e:(stL S).set (21+i) (.slice xs ls.length cp)=stL (S.setV i xs ls.length cp):=by rcases(show i=0∨i=1 by omega) with rfl|rfl<;>rfl
 rw[e] at hb;have k:=h.put (S':=S.setV i xs ls.length cp) p hb ho (fun j hj=>by simp[FS.setV,upd,Nat.ne_of_lt hj]);refine⟨k.d,k.k,k.z,k.b,k.w,fun j hj=>?_⟩
 by_cases e:j=i
 · subst e;simp only[FS.setV,upd,if_true];exact⟨trivial,ho.vls (fun g off e=>by have:=hx g off e;omega) hv,hx⟩
 · have:=k.s j (by omega);simp only[upd,if_neg e];exact this
end
structure SX (S:FS):Prop where
 n:0≤S.n∧S.n≤3
 b:∀j,j<3→∀k,k<3→0≤(S.bk j).b k∧(S.bk j).b k≤10
 l:∀j,j<3→-1000≤(S.bk j).l∧(S.bk j).l≤1000
theorem SX.setL{S:FS}(h:SX S)(i:Nat){x:Int}(h0:-1000≤x)(h1:x≤1000):SX (S.setL i x):=by
 refine⟨h.n,fun j hj k hk=>?_,fun j hj=>?_⟩
 · by_cases e:j=i
   · simp only[FS.setL,upd,if_pos e];subst e;exact h.b j hj k hk
   · simp only[FS.setL,upd,if_neg e];exact h.b j hj k hk
 · by_cases e:j=i
   · simp only[FS.setL,upd,if_pos e];exact⟨h0,h1⟩
   · simp only[FS.setL,upd,if_neg e];exact h.l j hj
theorem SX.setB{S:FS}(h:SX S)(i k:Nat){x:Int}(h0:0≤x)(h1:x≤10):SX (S.setB i k x):=by
 refine⟨h.n,fun j hj m hm=>?_,fun j hj=>?_⟩
 · by_cases e:j=i
   · subst e
     by_cases e2:m=k
     · simp only[FS.setB,upd,if_true,if_pos e2];exact⟨h0,h1⟩
     · simp only[FS.setB,upd,if_true,if_neg e2];exact h.b j hj m hm
   · simp only[FS.setB,upd,if_neg e];exact h.b j hj m hm
 · by_cases e:j=i
   · simp only[FS.setB,upd,if_pos e];subst e;exact h.l j hj
   · simp only[FS.setB,upd,if_neg e];exact h.l j hj
theorem SX.setO{S:FS}(h:SX S)(i k:Nat)(x:Bool):SX (S.setO i k x):=by
 refine⟨h.n,fun j hj m hm=>?_,fun j hj=>?_⟩
 · by_cases e:j=i
   · simp only[FS.setO,upd,if_pos e];subst e;exact h.b j hj m hm
   · simp only[FS.setO,upd,if_neg e];exact h.b j hj m hm
 · by_cases e:j=i
   · simp only[FS.setO,upd,if_pos e];subst e;exact h.l j hj
   · simp only[FS.setO,upd,if_neg e];exact h.l j hj
theorem seU_ok{C:CR}{i:Nat}{L:List Sv}(ha:arE (C.a i 5) (C.a i 6) (C.a i 7) (C.a i 10)=0)(h:SvOK (C.a i 5) (C.a i 10) L):∀k,k≤L.length→seU C i L k=0
 |0,_=>rfl
 |k+1,hk=>by
  rw[seU,if_pos (seU_ok ha h k (by omega))]
  unfold svE
  rw[if_pos ha,if_pos (h k (by omega))]
theorem chE_ok{C:CR}(hc:crE C=0){i:Nat}(hi:i<2){A D W:Int}(h0:C.a i 0≤A∧A≤C.a i 1)(h1:-moI C i≤D∧D≤moI C i)(h2:0≤W∧W≤3)(hm:0≤moI C i):chE C i (A,D,W)=0:=by
 unfold chE hoE
 rw[if_pos (show ruE (C.a i 0) (C.a i 1) (C.a i 11) (C.a i 14) (moI C i) (C.al i) (C.zl i)=0 from Zde hc hi (k:=4) (by omega)),if_pos (show stB _ _ _ _ _ _=true by simp only[stB,Bool.and_eq_true];exact⟨⟨Zbm h0.1 h0.2,Zbm h1.1 h1.2⟩,Zbm h2.1 h2.2⟩),if_pos (show asB _ 0 0 0=true by simp only[asB,Bool.and_eq_true];exact⟨⟨Zbm (by omega) (by omega),Zbm (by omega) (by omega)⟩,Zbm (by omega) hm⟩)]
theorem stE_sx{C:CR}{S:FS}{sv:Nat→List Sv}(hc:crE C=0)(h:SX S)(hs:∀i,i<2→csE C i (sv i)=0∧chE C i (S.hd i)=0):stE C S sv=0:=by
 have hb:∀j,j<3→Zcf (S.bk j).b (S.bk j).l=0:=fun j hj=>by
  have e:okU (S.bk j).b 3=true:=by
   have k0:=h.b j hj 0 (by omega);have k1:=h.b j hj 1 (by omega);have k2:=h.b j hj 2 (by omega)
   simp[okU,gb];omega
  have e2:Zba (S.bk j).l=true:=by have:=h.l j hj;simp[Zba];omega
  unfold Zcf
  rw[e,e2];rfl
 unfold stE
 rw[if_pos hc,if_pos (Zel fun j hj=>?_)]
 rcases(show j=0∨j=1∨j=2∨j=3∨j=4∨j=5∨j=6∨j=7 by omega) with rfl|rfl|rfl|rfl|rfl|rfl|rfl|rfl
 · show clE S.n=0;unfold clE;rw[if_pos (Zbm h.n.1 h.n.2)]
 · exact hb 0 (by omega)
 · exact hb 1 (by omega)
 · exact hb 2 (by omega)
 · exact(hs 0 (by omega)).1
 · exact(hs 0 (by omega)).2
 · exact(hs 1 (by omega)).1
 · exact(hs 1 (by omega)).2
theorem newR_c(C:CR)(hc:crE C=0)(w:World):Calls prog 69 #[.agg (crL C).toArray] w fun e w'=>(∃T:FS,e=.returned (.agg (stL T).toArray)∧SX T)∧Below w.heap.size w w':=by
 refine(rnew_any (C.a 0 0) (C.a 0 1) (C.a 0 2) (C.a 0 3) (C.a 0 4) (C.a 0 5) (C.a 0 6) (C.a 0 7) (C.a 0 8) (C.a 0 9) (C.a 0 10) (C.a 0 11) (C.a 0 14) (C.p 0) (C.q 0) (C.al 0).length (C.zl 0).length (C.cn 0) (C.cm 0) (C.a 1 0) (C.a 1 1) (C.a 1 2) (C.a 1 3) (C.a 1 4) (C.a 1 5) (C.a 1 6) (C.a 1 7) (C.a 1 8) (C.a 1 9) (C.a 1 10) (C.a 1 11) (C.a 1 14) (C.p 1) (C.q 1) (C.al 1).length (C.zl 1).length (C.cn 1) (C.cm 1) C.c0 C.c1 (cr_rg hc (i:=0) (by omega)).1 (cr_rg hc (i:=1) (by omega)).1 w).mono ?_;rintro e w' ⟨G0,G1,k0,k1,_,rfl,_,_,hb⟩;exact⟨⟨⟨fun _=>⟨fun _=>0,fun _=>false,0⟩,fmk2 (some (Ad G0 0)) (some (Ad G1 0)),fmk2 k0 k1,fmk2 k0 k1,fun _=>(0,0,0),0⟩,rfl,⟨⟨Int.le_refl 0,show(0:Int)≤3 by decide⟩,fun _ _ _ _=>⟨Int.le_refl 0,show(0:Int)≤10 by decide⟩,fun _ _=>⟨show(-1000:Int)≤0 by decide,show(0:Int)≤1000 by decide⟩⟩⟩,hb⟩
theorem infoHr7:(prog.info? 107).map (·.size)=some 7:=by kernel_rfl
theorem res_state(tmps:Array Value)(U:World)(Z:Nat)(cs:List Value)(h2:tmps.getD 4 undef=.pointer (some (Ad Z 0)))(hR:U.rangeAt Z 0 cs)(hn:cs.length=30):
 (results Tryz.f22 tmps).run prog U=.ok (.agg cs.toArray) U:=by
 have h3:tmps[4]?.getD undef=.pointer (some (Ad Z 0)):=by simpa using h2
 simp[results,results22,h3,asAddr,run_loadVar_mid U Z 0 41 cs _ hR underlying41 rfl (by rw[Zbf,hn])]
theorem stateFrom_any(C:CR)(hcr:crE C=0)(a:Option Addr)(l:List Int)(cap:Nat)(hl:l.length≤100)(w:World)(hil:ILs w a l):
 Calls prog 22 #[.agg (crL C).toArray,.slice a l.length cap] w fun e w'=>(∃(S:FS) (sv:Nat→List Sv),e=.returned (.agg (stL S).toArray)∧SvL w' S sv∧stE C S sv=0)∧Below w.heap.size w w':=by
 have hraw:=raw_of hil;have HB:Hid (Below w.heap.size w (((w.alloc (.cells (crL C).toArray 29)).alloc (.cells zSt.toArray 41)).alloc (.cells #[.slice a l.length cap,Vi 0] 154))):=Zab (Zac (Zac (Zaa _ _) (Zaa _ _)) (Zaa _ _));have HSZ:Hid ((((w.alloc (.cells (crL C).toArray 29)).alloc (.cells zSt.toArray 41)).alloc (.cells #[.slice a l.length cap,Vi 0] 154)).heap.size=w.heap.size+3):=Zab (by simp[World.size_alloc])
 have HD:Hid (Dc (((w.alloc (.cells (crL C).toArray 29)).alloc (.cells zSt.toArray 41)).alloc (.cells #[.slice a l.length cap,Vi 0] 154)) (w.heap.size+2) a l cap 0):=by
  refine Zab ⟨⟨by simp[go_sem],by simp[go_sem]⟩,by simp[go_sem],hil.later HB.out,fun b off e hne=>?_⟩;have:=hraw b off e hne
  omega
 have HK:Hid (Blk 29 (((w.alloc (.cells (crL C).toArray 29)).alloc (.cells zSt.toArray 41)).alloc (.cells #[.slice a l.length cap,Vi 0] 154)) w.heap.size (crL C)):=Zab (((Blk.new w 29 (crL C)).later (Zaa _ _)).later (Zaa _ _));have HZ:Hid (Blk 41 (((w.alloc (.cells (crL C).toArray 29)).alloc (.cells zSt.toArray 41)).alloc (.cells #[.slice a l.length cap,Vi 0] 154)) (w.heap.size+1) zSt):=Zab (by have h:=(Blk.new (w.alloc (.cells (crL C).toArray 29)) 41 zSt).later (Zaa _ (.cells #[.slice a l.length cap,Vi 0] 154));rw[World.size_alloc] at h;exact h);have HRW:=Zab hraw;clear hil hraw
 go_enter func22,ntmps22
 go_upto_region 2 with fail
 change Code.wp _ _ _ _ (((w.alloc (.cells (crL C).toArray 29)).alloc (.cells zSt.toArray 41)).alloc (.cells #[.slice a l.length cap,Vi 0] 154))
 generalize (((w.alloc (.cells (crL C).toArray 29)).alloc (.cells zSt.toArray 41)).alloc (.cells #[.slice a l.length cap,Vi 0] 154))=v2 at *;generalize hO:w.heap.size+2=O at HD⊢;generalize hZ:w.heap.size+1=QZ at HZ⊢;generalize hQ:w.heap.size=QK at HK⊢;have HKR:=Zab HK.out.range
 go_upto_region 3 with(first
  |(refine Lq 29 _ rfl ?_;refine wpList_load_mid rfl 29 (.tmp 2) rfl QK 0 rfl (crL C) _ HKR.out underlying29 rfl Zaw ?_)
  |(go_at_call 69;refine(newR_c C hcr _).mono ?_;rintro e v3 ⟨⟨S0,rfl,hS0⟩,hb⟩;have HSX:=Zab hS0;have HB3:=Zab hb;clear hS0 hb)
  |(refine isStoreT 41 _ _ rfl ?_;refine Zff (c':=(stL S0).toArray) 41 30 Zbf (.tmp 6) (.tmp 15) rfl rfl rfl rfl rfl rfl (stL_one S0) ?_))
 have HA:=Zaa v3 (.cells (stL S0).toArray 41);have HBU:=Zab (Zac HB3.out HA);have HPP:Hid (SPs w QK QZ O v3.heap.size a l):=Zab ⟨by omega,by omega,by have:=HB3.out.size;have:=HSZ.out;omega,HRW.out⟩;have HV:Hid (SVm C w (v3.alloc (.cells (stL S0).toArray 41)) QK QZ O v3.heap.size a l cap 0 S0 0 (fun _=>[])):=Zab ⟨HD.out.later HBU.out,HK.out.later HBU.out,HZ.out.later HBU.out,Blk.new v3 _ _,Zac HB.out HBU.out,fun j hj=>absurd hj (Nat.not_lt_zero j)⟩;clear HA HBU HB3 HB HSZ HD HK HZ HRW HKR hO hZ hQ;generalize v3.alloc (.cells (stL S0).toArray 41)=v4 at *;generalize v3.heap.size=QB at*
 go_upto_region 4 with(go_at_call 70;refine(diceMost5 O a l cap _ 0 0 1 2 3 0 3 (by omega) hl (by omega) _ HV.out.d).mono ?_;rintro e v5 ⟨⟨x,rfl,x0,x1⟩,hD,hK⟩;replace HV:=Zab (HV.out.dk HPP.out hD hK);have k1:=(HV.out.b.cell (j:=29) rfl).1;have k2:=(HV.out.b.cell (j:=29) rfl).2;clear hD hK);replace HV:=Zab (HV.out.put (S':=S0.setN x) HPP.out (HV.out.b.set 29 (Vi x)) ((Oth.refl v5 QB).set (j:=29) (v:=Vi x)) (fun _ _=>⟨rfl,rfl⟩));replace HSX:Hid (SX (S0.setN x)):=Zab ⟨⟨x0,x1⟩,HSX.out.b,HSX.out.l⟩;generalize v5.setCell (Ad QB 29) (Vi x)=v6 at HV⊢;generalize S0.setN x=S1 at HV HSX;clear k1 k2 x0 x1
 go_upto_region 5 with fail
 go_loopw [7] (fun ix wr=>∃(i q:Nat) (S:FS),i≤3∧ix=Vi i∧SVm C w wr QK QZ O QB a l cap q S 0 (fun _=>[])∧SX S∧q≤10+10*i) (fun ix _=>3-(intOf ix).toNat)
 case atStart=>exact⟨0,_,S1,by omega,rfl,HV.out,HSX.out,by omega⟩
 case round=>
  clear HV HSX;obtain⟨i,q,S,hi,rfl,hV,hSX,hq⟩:=hrel;have HV:=Zab hV;have HSX:=Zab hSX;clear hV hSX
  by_cases hi3:i<3
  · have i0:(0:Int)≤(i:Int):=by omega
    have i1:(i:Int)<3:=by omega
    go_upto_region 8 with(go_at_call 67;refine(dN 2001 hl HV.out.d).mono ?_;rintro e v7 ⟨⟨x,rfl,x0,x1⟩,hD,hK,hsz⟩;replace HV:=Zab (HV.out.dk HPP.out hD hK);have vx:=Wr (x-1000);have k1:=(HV.out.b.cell (stl_at S hi3)).1;have k2:=(HV.out.b.cell (stl_at S hi3)).2;clear hsz hD hK);replace HV:=Zab (HV.out.put HPP.out (stl_set hi3 (HV.out.b.set (i*7+6) (Vi (x-1000)))) ((Oth.refl v7 QB).set (j:=i*7+6) (v:=Vi (x-1000))) (fun _ _=>⟨rfl,rfl⟩));replace HSX:=Zab (HSX.out.setL i (x:=x-1000) (by omega) (by omega));generalize v7.setCell (Ad QB (i*7+6)) (Vi (x-1000))=v8 at HV⊢;generalize S.setL i (x-1000)=S at HV HSX;clear k1 k2 x0 x1 vx
    go_upto_region 9 with fail
    go_loopw [8] (fun ix wr=>∃(k q':Nat) (S:FS),k≤3∧ix=Vi k∧SVm C w wr QK QZ O QB a l cap q' S 0 (fun _=>[])∧SX S∧q'≤q+1+2*k) (fun ix _=>3-(intOf ix).toNat)
    case atStart=>exact⟨0,_,S,by omega,rfl,HV.out,HSX.out,by omega⟩
    case round=>
     clear HV HSX;obtain⟨k,q',S,hk,rfl,hV,hSX,hq'⟩:=hrel;have HV:=Zab hV;have HSX:=Zab hSX;clear hV hSX
     by_cases hk3:k<3
     · have k0:(0:Int)≤(k:Int):=by omega
       have kk1:(k:Int)<3:=by omega
       · go_upto_region 11 with fail;replace HV:=Zab (HV.out.later HPP.out (Below.refl _ wr).drew);refine wp_region_held_drew (S:=fun u=>True) (by kernel_rfl) (trivial) (fun _=>?_);have HS0:Hid (True):=Zab (trivial);generalize wr.drew=u0 at HS0 HV⊢;refine Tq 0 HS0.out ?_;simp only[Act.put,Ly];refine Tq 1 HS0.out ?_;simp only[Act.put,Ly];refine Tq 2 HS0.out ?_;simp only[Act.put,Ly];refine Tq 3 HS0.out ?_;simp only[Act.put,Ly];refine Tq 4 HS0.out ?_;simp only[Act.put,Ly];refine Tq 6 HS0.out ?_;simp only[Act.put,Ly];refine Tq 9 HS0.out ?_;simp only[Act.put,Ly];refine Tq 10 HS0.out ?_;simp only[Act.put,Ly];refine Tq 11 HS0.out ?_;simp only[Act.put,Ly];refine Tq 14 HS0.out ?_;simp only[Act.put,Ly];refine Tq 15 HS0.out ?_;simp only[Act.put,Ly];refine Tq 16 HS0.out ?_;simp only[Act.put,Ly];refine Ra 5 (fun K hK=>?_);go_simp;refine(dN 11 hl HV.out.d).mono ?_;rintro e u1 ⟨⟨x,rfl,x0,x1⟩,hD,hK2,hsz⟩;replace HV:=Zab (HV.out.dk HPP.out hD hK2);have HS1:Hid True:=trivial;clear hD hK2 hsz;refine hK.out _ _ HS1.out (fun _=>?_);clear hK K;(try simp only[Act.put]);refine Tq 12 HS1.out ?_;simp only[Act.put,Ly];refine Ra 7 (fun K hK=>?_);go_simp;refine(dN 5 hl HV.out.d).mono ?_;rintro e u2 ⟨⟨y,rfl,y0,y1⟩,hD,hK2,hsz⟩;replace HV:=Zab (HV.out.dk HPP.out hD hK2);have HS2:Hid True:=trivial;clear hD hK2 hsz;refine hK.out _ _ HS2.out (fun _=>?_);clear hK K;(try simp only[Act.put]);clear HS1;refine Tq 8 HS2.out ?_;simp only[Act.put,Ly];refine Ra 13 (fun K hK=>?_);have k1:=HV.out.b.cell (stb_at S hi3 hk3);have k2:=k1.2;replace k1:=k1.1;go_simp;have hO9:Oth u2 (u2.setCell (Ad QB (i*7+k)) (Vi x)) QB:=(Oth.refl u2 QB).set;replace HV:=Zab (HV.out.put HPP.out (stb_set hi3 hk3 (HV.out.b.set (i*7+k) (Vi x))) hO9 (fun _ _=>⟨rfl,rfl⟩));generalize u2.setCell (Ad QB (i*7+k)) (Vi x)=u3 at HV⊢;have HS3:Hid True:=trivial;clear k1 k2 hO9;refine hK.out _ _ HS3.out (fun _=>?_);clear hK K;(try simp only[Act.put]);clear HS2;refine Tq 17 HS3.out ?_;simp only[Act.put,Ly];refine Ra 18 (fun K hK=>?_);have k1:=HV.out.b.cell (sto_at (S.setB i k x) hi3 hk3);have k2:=k1.2;replace k1:=k1.1;go_simp;have hO9:Oth u3 (u3.setCell (Ad QB (i*7+3+k)) (.bool (y==0))) QB:=(Oth.refl u3 QB).set
         replace HV:=Zab (HV.out.put HPP.out (sto_set hi3 hk3 (HV.out.b.set (i*7+3+k) (.bool (y==0)))) hO9 (fun _ _=>⟨rfl,rfl⟩));generalize u3.setCell (Ad QB (i*7+3+k)) (.bool (y==0))=u4 at HV⊢;have HS4:Hid True:=trivial;clear k1 k2 hO9;refine hK.out _ _ HS4.out (fun _=>?_);clear hK K;(try simp only[Act.put]);clear HS3;refine wpAnyH_done (by kernel_rfl) ?_ _;go_simp;clear HS4;generalize u4=v11 at HV⊢;refine Zby (by assumption) ?_;go_wp2_with fail;exact⟨⟨k+1,_,_,by omega,by go_num,HV.out,(HSX.out.setB i k x0 (by omega)).setO i k (y==0),by omega⟩,by simp[intOf];omega⟩
     · obtain rfl:k=3:=by omega
       go_wp2_with fail;exact⟨⟨i+1,_,_,by omega,by go_num,HV.out,HSX.out,by omega⟩,by simp[intOf];omega⟩
  · obtain rfl:i=3:=by omega
    go_upto_region 13 with fail
    go_loopw [9] (fun ix wr=>∃(i q':Nat) (S:FS) (sv:Nat→List Sv),i≤2∧ix=Vi i∧SVm C w wr QK QZ O QB a l cap q' S i sv∧SX S∧(∀j,j<i→csE C j (sv j)=0∧chE C j (S.hd j)=0)∧q'≤100+100*i) (fun ix _=>2-(intOf ix).toNat)
    case atStart=>exact⟨0,_,S,_,by omega,rfl,HV.out,HSX.out,fun j hj=>absurd hj (Nat.not_lt_zero j),by omega⟩
    case round=>
     clear HV HSX;obtain⟨i,q',S,sv,hi,rfl,hV,hSX,hcs,hq'⟩:=hrel;have HV:=Zab hV;have HSX:=Zab hSX;have HCS:=Zab hcs;clear hV hSX hcs
     by_cases hi2:i<2
     · have i0:(0:Int)≤(i:Int):=by omega
       have i1:(i:Int)<2:=by omega
       have hg:=cr_gok hcr hi2;have ha:=Zat (cr_ar hcr hi2);have h4:=(cr_rg hcr hi2).1;obtain⟨b5,-,-,b10⟩:=ha;have hmo:=Zgx h4.1 h4.2 b5.1 b5.2;have HM0:Hid (0≤moI C i∧moI C i≤3000):=Zab ⟨by show 0≤(C.a i 4-1)*C.a i 5;omega,by show(C.a i 4-1)*C.a i 5≤3000;omega⟩;have HRX:=Zab (HV.out.axis hi2);have HHR:=Zab (Zbu (C.a i 0) (C.a i 1) (C.a i 2) (C.a i 3) (C.a i 4) (C.a i 5) (C.a i 6) (C.a i 7) (C.a i 8) (C.a i 9) (C.a i 10) (C.a i 11) (C.a i 14) (C.p i) (C.q i) (C.al i).length (C.zl i).length (C.cn i) (C.cm i) h4 b5);have HAR:=Zab (Zbq (C.a i 0) (C.a i 1) (C.a i 2) (C.a i 3) (C.a i 4) (C.a i 5) (C.a i 6) (C.a i 7) (C.a i 8) (C.a i 9) (C.a i 10) (C.a i 11) (C.a i 14) (C.p i) (C.q i) (C.al i).length (C.zl i).length (C.cn i) (C.cm i))
       go_upto_region 16 with(first
        |(refine Lq 26 _ rfl ?_;refine wpList_load_mid rfl 26 (.tmp 58) rfl QK (i*15) rfl (axL C i) _ HRX.out underlying26 rfl Zav ?_)
        |(go_at_call 44;refine Sb (HHR.out _) fun v14 hb=>?_;replace HV:=Zab (HV.out.later HPP.out hb);clear hb HRX)
        |(refine isStoreT 107 _ _ rfl ?_;refine Zff (c':=#[Vi (C.a i 0),Vi (C.a i 1),Vi (C.a i 11),Vi (C.a i 14),Vi (moI C i),.slice (C.p i) (C.al i).length (C.cn i),.slice (C.q i) (C.zl i).length (C.cm i)]) 107 7 infoHr7 (.tmp 10) (.tmp 60) rfl rfl rfl rfl rfl rfl (Zaq _ rfl) ?_))
       have HA:=Zaa v14 (.cells #[Vi (C.a i 0),Vi (C.a i 1),Vi (C.a i 11),Vi (C.a i 14),Vi (moI C i),.slice (C.p i) (C.al i).length (C.cn i),.slice (C.q i) (C.zl i).length (C.cm i)] 107);have HH:Hid (Blk 107 (v14.alloc (.cells #[Vi (C.a i 0),Vi (C.a i 1),Vi (C.a i 11),Vi (C.a i 14),Vi (moI C i),.slice (C.p i) (C.al i).length (C.cn i),.slice (C.q i) (C.zl i).length (C.cm i)] 107)) v14.heap.size [Vi (C.a i 0),Vi (C.a i 1),Vi (C.a i 11),Vi (C.a i 14),Vi (moI C i),.slice (C.p i) (C.al i).length (C.cn i),.slice (C.q i) (C.zl i).length (C.cm i)]):=Zab (Blk.new v14 _ _);have HQH:Hid (v14.heap.size≠O∧v14.heap.size≠QB):=Zab (by have:=HV.out.d.lt;have:=HV.out.b.lt;omega);replace HV:=Zab (HV.out.later HPP.out HA)
       change Code.wp _ _ _ _ (v14.alloc (.cells #[Vi (C.a i 0),Vi (C.a i 1),Vi (C.a i 11),Vi (C.a i 14),Vi (moI C i),.slice (C.p i) (C.al i).length (C.cn i),.slice (C.q i) (C.zl i).length (C.cm i)] 107))
       clear HA HHR;generalize v14.alloc (.cells #[Vi (C.a i 0),Vi (C.a i 1),Vi (C.a i 11),Vi (C.a i 14),Vi (moI C i),.slice (C.p i) (C.al i).length (C.cn i),.slice (C.q i) (C.zl i).length (C.cm i)] 107)=v15 at *;generalize v14.heap.size=QH at *;obtain⟨m,hm⟩:∃m:Nat,C.a i 4=(m:Int):=⟨(C.a i 4).toNat,by omega⟩;replace HV:=Zab (HV.out.later HPP.out (Below.refl _ v15).drew);replace HH:=Zab (HH.out.later (Below.refl _ v15).drew);refine wp_region_held_drew (S:=fun u=>(u.rangeAt QK (i*15) (axL C i))) (by kernel_rfl) (HV.out.axis hi2) (fun _=>?_);have HS0:Hid ((v15.drew.rangeAt QK (i*15) (axL C i))):=Zab (HV.out.axis hi2);generalize v15.drew=u0 at HS0 HV HH⊢;refine Tq 0 HS0.out ?_;simp only[Act.put,Ly];refine Tq 1 HS0.out ?_;simp only[Act.put,Ly];refine Tq 2 HS0.out ?_;simp only[Act.put,Ly];refine Tq 3 HS0.out ?_;simp only[Act.put,Ly];refine Tq 4 HS0.out ?_;simp only[Act.put,Ly];refine Tk 5 rfl (yieldsIf_load_mid (by rfl) 26 (.tmp 65) rfl QK (i*15) rfl (axL C i) _ (fun w hSw=>hSw) underlying26 rfl Zav) HS0.out ?_;simp only[Act.put,Ly];refine Tq 7 HS0.out ?_;simp only[Act.put,Ly];refine Tq 8 HS0.out ?_;simp only[Act.put,Ly];refine Tq 9 HS0.out ?_;simp only[Act.put,Ly];refine Tq 10 HS0.out ?_;simp only[Act.put,Ly];refine Th 11 rfl (by intro w hSw;(try dsimp only at hSw);have xt:=hSw 4 _ rfl;  clear hSw;go_simp;(try with_reducible rfl)) HS0.out ?_;simp only[Act.put,Ly];refine Tq 13 HS0.out ?_;simp only[Act.put,Ly];refine Ra 6 (fun K hK=>?_);go_simp;refine Sb (HAR.out _) fun u1 hb=>?_;replace HV:=Zab (HV.out.later HPP.out hb);replace HH:=Zab (HH.out.later hb);have HS1:Hid (u1.rangeAt QK (i*15) (axL C i)):=Zab (HV.out.axis hi2);clear hb;refine hK.out _ _ HS1.out (fun _=>?_);clear hK K;(try simp only[Act.put]);refine Ra 12 (fun K hK=>?_);go_simp;refine(servosFrom_any O a l cap _ (C.a i 5) (C.a i 6) (C.a i 7) (C.a i 10) m (by omega) hl b5.1 b5.2 b10.1 b10.2 (by omega) _ HV.out.d (HV.out.raw HPP.out)).mono ?_;rintro e u2 ⟨⟨xs,cp,ls,hls,rfl,hvl,hok,hloc,q2,hq2,hD⟩,hK2⟩;have HLO:=Zab (fun g off e=>Nat.lt_trans HV.out.b.lt (hloc g off e));replace HV:=Zab (HV.out.dk HPP.out hD hK2);replace HH:=Zab (hK2.blk HQH.out.1 HH.out);have HLS:=Zab (And.intro hls (And.intro hvl hok));have HS2:Hid (u2.rangeAt QK (i*15) (axL C i)):=Zab (HV.out.axis hi2)
       clear hD hK2 hls hvl hok hloc;refine hK.out _ _ HS2.out (fun _=>?_);clear hK K;(try simp only[Act.put]);clear HS1;refine Tq 14 HS2.out ?_;simp only[Act.put,Ly];refine Ra 15 (fun K hK=>?_);have k1:=HV.out.b.cell (stv_at S hi2);have k2:=k1.2;replace k1:=k1.1;go_simp;have hO9:Oth u2 (u2.setCell (Ad QB (21+i)) (.slice xs ls.length cp)) QB:=(Oth.refl u2 QB).set;replace HV:=Zab (HV.out.putV HPP.out hi2 (HV.out.b.set (21+i) (.slice xs ls.length cp)) hO9 HLS.out.2.1 HLO.out);replace HH:=Zab (hO9.mblk HQH.out.2 HH.out);generalize u2.setCell (Ad QB (21+i)) (.slice xs ls.length cp)=u3 at HV HH⊢;have HS3:Hid (u3.rangeAt QK (i*15) (axL C i)):=Zab (HV.out.axis hi2);clear k1 k2 hO9;refine hK.out _ _ HS3.out (fun _=>?_);clear hK K;(try simp only[Act.put]);clear HS2;refine wpAnyH_done (by kernel_rfl) ?_ _;go_simp;clear HS3;generalize u3=v16 at HV HH⊢;refine Zby (by assumption) ?_;have HCE:Hid (csE C i ls=0):=Zab (by unfold csE;rw[if_pos (by rw[HLS.out.1,hm]),seU_ok (show arE (C.a i 5) (C.a i 6) (C.a i 7) (C.a i 10)=0 from Zde hcr hi2 (k:=2) (by omega)) HLS.out.2.2 _ (Nat.le_refl _)]);replace HSX:Hid (SX (S.setV i xs ls.length cp)):=Zab ⟨HSX.out.n,HSX.out.b,HSX.out.l⟩;replace HCS:Hid (∀j,j<i→csE C j (upd sv i ls j)=0∧chE C j ((S.setV i xs ls.length cp).hd j)=0):=Zab (fun j hj=>by simp only[upd,if_neg (Nat.ne_of_lt hj)];exact HCS.out j hj);generalize S.setV i xs ls.length cp=S at HV HSX HCS
       have hq2':q2≤150+100*i:=by omega
       clear HLS HLO hm hq2;obtain⟨hl0,hl1,hh0,hh1,-,-,-,-,-,-,-,-⟩:=hg.toGR;have hw2:=hg.room;have hbk:=Zbs (raI C i) (moI C i+puI C i);have hn0:=hg.toGR.n0;have hm0:=HM0.out.1;have hm1:=HM0.out.2;have vd1:=Wr (C.a i 1-C.a i 0);have vd2:=Wr (C.a i 1-C.a i 0+1);have v2m:=Wr (2*moI C i);have v2n:=Wr (2*moI C i+1)
       go_upto_region 17 with fail;replace HV:=Zab (HV.out.later HPP.out (Below.refl _ v16).drew);replace HH:=Zab (HH.out.later (Below.refl _ v16).drew);refine wp_region_held_drew (S:=fun u=>(u.cell? (Ad QH 0)=some (Vi (C.a i 0))∧u.cell? (Ad QH 1)=some (Vi (C.a i 1))∧u.cell? (Ad QH 4)=some (Vi (moI C i)))) (by kernel_rfl) (⟨(HH.out.cell (j:=0) rfl).1,(HH.out.cell (j:=1) rfl).1,(HH.out.cell (j:=4) rfl).1⟩) (fun _=>?_);have HS0:Hid ((v16.drew.cell? (Ad QH 0)=some (Vi (C.a i 0))∧v16.drew.cell? (Ad QH 1)=some (Vi (C.a i 1))∧v16.drew.cell? (Ad QH 4)=some (Vi (moI C i)))):=Zab (⟨(HH.out.cell (j:=0) rfl).1,(HH.out.cell (j:=1) rfl).1,(HH.out.cell (j:=4) rfl).1⟩);generalize v16.drew=u0 at HS0 HV HH⊢;refine Tq 0 HS0.out ?_;simp only[Act.put,Ly];refine Tq 1 HS0.out ?_;simp only[Act.put,Ly];refine Tq 2 HS0.out ?_;simp only[Act.put,Ly];refine Tq 3 HS0.out ?_;simp only[Act.put,Ly];refine Tq 4 HS0.out ?_;simp only[Act.put,Ly];refine Th 5 rfl (by intro w hSw;(try dsimp only at hSw);have xt:=hSw.1;have xu:=hSw.2.1;have xv:=hSw.2.2;  clear hSw;go_simp;(try with_reducible rfl)) HS0.out ?_;simp only[Act.put,Ly];refine Tq 6 HS0.out ?_;simp only[Act.put,Ly];refine Tq 7 HS0.out ?_;simp only[Act.put,Ly];refine Tq 8 HS0.out ?_;simp only[Act.put,Ly];refine Th 9 rfl (by intro w hSw;(try dsimp only at hSw);have xt:=hSw.1;have xu:=hSw.2.1;have xv:=hSw.2.2;  clear hSw;go_simp;(try with_reducible rfl)) HS0.out ?_;simp only[Act.put,Ly];refine Tq 10 HS0.out ?_;simp only[Act.put,Ly];refine Tq 11 HS0.out ?_;simp only[Act.put,Ly];refine Th 12 rfl (by intro w hSw;(try dsimp only at hSw);have xt:=hSw.1;have xu:=hSw.2.1;have xv:=hSw.2.2;  clear hSw;go_simp;(try with_reducible rfl)) HS0.out ?_;simp only[Act.put,Ly];refine Tq 13 HS0.out ?_;simp only[Act.put,Ly];refine Tq 14 HS0.out ?_;simp only[Act.put,Ly];refine Tq 17 HS0.out ?_;simp only[Act.put,Ly];refine Tq 18 HS0.out ?_;simp only[Act.put,Ly];refine Th 19 rfl (by intro w hSw;(try dsimp only at hSw);have xt:=hSw.1;have xu:=hSw.2.1;have xv:=hSw.2.2;  clear hSw;go_simp;(try with_reducible rfl)) HS0.out ?_;simp only[Act.put,Ly];refine Tq 20 HS0.out ?_;simp only[Act.put,Ly];refine Tq 21 HS0.out ?_;simp only[Act.put,Ly];refine Tq 23 HS0.out ?_;simp only[Act.put,Ly]
       refine Th 24 rfl (by intro w hSw;(try dsimp only at hSw);have xt:=hSw.1;have xu:=hSw.2.1;have xv:=hSw.2.2;  clear hSw;go_simp;(try with_reducible rfl)) HS0.out ?_;simp only[Act.put,Ly];refine Tq 26 HS0.out ?_;simp only[Act.put,Ly];refine Tq 28 HS0.out ?_;simp only[Act.put,Ly];refine Tq 32 HS0.out ?_;simp only[Act.put,Ly];refine Tq 36 HS0.out ?_;simp only[Act.put,Ly];refine Ra 15 (fun K hK=>?_);go_simp;refine(dN (C.a i 1-C.a i 0+1) hl HV.out.d).mono ?_;rintro e u1 ⟨⟨x,rfl,x0,x1⟩,hD,hK2,hsz⟩;replace HV:=Zab (HV.out.dk HPP.out hD hK2);replace HH:=Zab (hK2.blk HQH.out.1 HH.out);have HS1:Hid (u1.cell? (Ad QH 0)=some (Vi (C.a i 0))∧u1.cell? (Ad QH 1)=some (Vi (C.a i 1))∧u1.cell? (Ad QH 4)=some (Vi (moI C i))):=Zab ⟨(HH.out.cell (j:=0) rfl).1,(HH.out.cell (j:=1) rfl).1,(HH.out.cell (j:=4) rfl).1⟩;clear hD hK2 hsz;have vx:=Wr (C.a i 0+x);refine hK.out _ _ HS1.out (fun _=>?_);clear hK K;(try simp only[Act.put]);refine Tq 16 HS1.out ?_;simp only[Act.put,Ly];refine Tq 29 HS1.out ?_;simp only[Act.put,Ly];refine Tq 30 HS1.out ?_;simp only[Act.put,Ly];refine Ra 22 (fun K hK=>?_);go_simp;refine(dN (2*moI C i+1) hl HV.out.d).mono ?_;rintro e u2 ⟨⟨y,rfl,y0,y1⟩,hD,hK2,hsz⟩;replace HV:=Zab (HV.out.dk HPP.out hD hK2);replace HH:=Zab (hK2.blk HQH.out.1 HH.out);have HS2:Hid (u2.cell? (Ad QH 0)=some (Vi (C.a i 0))∧u2.cell? (Ad QH 1)=some (Vi (C.a i 1))∧u2.cell? (Ad QH 4)=some (Vi (moI C i))):=Zab ⟨(HH.out.cell (j:=0) rfl).1,(HH.out.cell (j:=1) rfl).1,(HH.out.cell (j:=4) rfl).1⟩;clear hD hK2 hsz;have vy:=Wr (y-moI C i);refine hK.out _ _ HS2.out (fun _=>?_);clear hK K;(try simp only[Act.put]);clear HS1;refine Tq 25 HS2.out ?_;simp only[Act.put,Ly];refine Ra 27 (fun K hK=>?_);go_simp;refine(dN 4 hl HV.out.d).mono ?_;rintro e u3 ⟨⟨z,rfl,z0,z1⟩,hD,hK2,hsz⟩;replace HV:=Zab (HV.out.dk HPP.out hD hK2);replace HH:=Zab (hK2.blk HQH.out.1 HH.out)
       have HS3:Hid (u3.cell? (Ad QH 0)=some (Vi (C.a i 0))∧u3.cell? (Ad QH 1)=some (Vi (C.a i 1))∧u3.cell? (Ad QH 4)=some (Vi (moI C i))):=Zab ⟨(HH.out.cell (j:=0) rfl).1,(HH.out.cell (j:=1) rfl).1,(HH.out.cell (j:=4) rfl).1⟩;clear hD hK2 hsz;refine hK.out _ _ HS3.out (fun _=>?_);clear hK K;(try simp only[Act.put]);clear HS2;refine Ra 31 (fun K hK=>?_);have k1:=HV.out.b.cell (sta_at S hi2);have k2:=k1.2;replace k1:=k1.1;go_simp;have hO9:Oth u3 (u3.setCell (Ad QB (23+i*3)) (Vi (C.a i 0+x))) QB:=(Oth.refl u3 QB).set;replace HV:=Zab (HV.out.put HPP.out (sta_set hi2 (HV.out.b.set (23+i*3) (Vi (C.a i 0+x)))) hO9 (fun _ _=>⟨rfl,rfl⟩));replace HH:=Zab (hO9.mblk HQH.out.2 HH.out);generalize u3.setCell (Ad QB (23+i*3)) (Vi (C.a i 0+x))=u4 at HV HH⊢;have HS4:Hid (u4.cell? (Ad QH 0)=some (Vi (C.a i 0))∧u4.cell? (Ad QH 1)=some (Vi (C.a i 1))∧u4.cell? (Ad QH 4)=some (Vi (moI C i))):=Zab ⟨(HH.out.cell (j:=0) rfl).1,(HH.out.cell (j:=1) rfl).1,(HH.out.cell (j:=4) rfl).1⟩;clear k1 k2 hO9;refine hK.out _ _ HS4.out (fun _=>?_);clear hK K;(try simp only[Act.put]);clear HS3;refine Tq 33 HS4.out ?_;simp only[Act.put,Ly];refine Tq 34 HS4.out ?_;simp only[Act.put,Ly];refine Ra 35 (fun K hK=>?_);have k1:=HV.out.b.cell (sth_at (S.setA i (C.a i 0+x)) hi2);have k2:=k1.2;replace k1:=k1.1;go_simp;have hO9:Oth u4 (u4.setCell (Ad QB (23+i*3+1)) (Vi (y-moI C i))) QB:=(Oth.refl u4 QB).set;replace HV:=Zab (HV.out.put HPP.out (sth_set hi2 (HV.out.b.set (23+i*3+1) (Vi (y-moI C i)))) hO9 (fun _ _=>⟨rfl,rfl⟩));replace HH:=Zab (hO9.mblk HQH.out.2 HH.out);generalize u4.setCell (Ad QB (23+i*3+1)) (Vi (y-moI C i))=u5 at HV HH⊢;have HS5:Hid (u5.cell? (Ad QH 0)=some (Vi (C.a i 0))∧u5.cell? (Ad QH 1)=some (Vi (C.a i 1))∧u5.cell? (Ad QH 4)=some (Vi (moI C i))):=Zab ⟨(HH.out.cell (j:=0) rfl).1,(HH.out.cell (j:=1) rfl).1,(HH.out.cell (j:=4) rfl).1⟩;clear k1 k2 hO9;refine hK.out _ _ HS5.out (fun _=>?_);clear hK K;(try simp only[Act.put]);clear HS4;refine Tq 37 HS5.out ?_;simp only[Act.put,Ly];refine Tq 38 HS5.out ?_;simp only[Act.put,Ly];refine Ra 39 (fun K hK=>?_);have k1:=HV.out.b.cell (stw_at ((S.setA i (C.a i 0+x)).setD i (y-moI C i)) hi2);have k2:=k1.2;replace k1:=k1.1;go_simp
       have hO9:Oth u5 (u5.setCell (Ad QB (23+i*3+2)) (Vi z)) QB:=(Oth.refl u5 QB).set;replace HV:=Zab (HV.out.put HPP.out (stw_set hi2 (HV.out.b.set (23+i*3+2) (Vi z))) hO9 (fun _ _=>⟨rfl,rfl⟩));replace HH:=Zab (hO9.mblk HQH.out.2 HH.out);generalize u5.setCell (Ad QB (23+i*3+2)) (Vi z)=u6 at HV HH⊢;have HS6:Hid (u6.cell? (Ad QH 0)=some (Vi (C.a i 0))∧u6.cell? (Ad QH 1)=some (Vi (C.a i 1))∧u6.cell? (Ad QH 4)=some (Vi (moI C i))):=Zab ⟨(HH.out.cell (j:=0) rfl).1,(HH.out.cell (j:=1) rfl).1,(HH.out.cell (j:=4) rfl).1⟩;clear k1 k2 hO9;refine hK.out _ _ HS6.out (fun _=>?_);clear hK K;(try simp only[Act.put]);clear HS5;refine wpAnyH_done (by kernel_rfl) ?_ _;go_simp;clear HS6;generalize u6=v17 at HV HH⊢;refine Zby (by assumption) ?_;go_wp2_with fail
       have HC2:Hid (∀j,j<i+1→csE C j (upd sv i ls j)=0∧chE C j ((((S.setA i (C.a i 0+x)).setD i (y-moI C i)).setW i z).hd j)=0):=Zab (fun j hj=>by
        by_cases e:j=i
        · subst e;rw[Zan];refine⟨HCE.out,?_⟩;simp only[FS.setA,FS.setD,FS.setW,upd,if_true];exact chE_ok hcr hi2 ⟨by omega,by omega⟩ ⟨by omega,by omega⟩ ⟨z0,by omega⟩ hm0
        · have:=HCS.out j (by omega);simp only[FS.setA,FS.setD,FS.setW,upd,if_neg e] at this⊢
          exact this)
       refine⟨?_,by simp[intOf];omega⟩
       (repeat apply Exists.intro)
       exact⟨⟨i+1,_,_,_,by omega,by go_num,HV.out,⟨HSX.out.n,HSX.out.b,HSX.out.l⟩,HC2.out,by omega⟩,rfl⟩
     · obtain rfl:i=2:=by omega
       have HBR:=Zab HV.out.b.range;have HZT:=Zab (HV.out.z.there0 S);have HO:Hid (Oth wr (wr.setCells QZ 0 (stL S)) QZ):=Zab (Oth.setCells _ 0 wr (Oth.refl wr QZ));have HZB:=Zab (HV.out.z.setSt S).range;have HSV:Hid (SvL (wr.setCells QZ 0 (stL S)) S sv):=Zab (fun j hj=>⟨(HV.out.s j hj).1,by have:=stE_sv (stE_sx hcr HSX.out HCS.out) hj;omega,HO.out.vls (fun g off e=>by have:=(HV.out.s j hj).2.2 g off e;have:=HPP.out.z;have:=HPP.out.o;omega) (HV.out.s j hj).2.1⟩);have HST:=Zab (stE_sx hcr HSX.out HCS.out);have HBB:=Zab (below_oth HV.out.w HO.out (by have:=HPP.out.k;omega));clear HV HSX HCS HO
       go_wp2_with (first
        |(refine Lq 41 _ rfl ?_;refine wpList_load_mid rfl 41 (.tmp 6) rfl QB 0 rfl (stL S) _ HBR.out underlying41 rfl (stL_infoL S) ?_)
        |(refine Sq 41 _ _ rfl ?_;refine wpList_store_mid rfl 41 (.tmp 4) (.tmp 113) rfl QZ 0 (stL S).toArray rfl rfl HZT.out (stL_info S) (stL_one S) ?_))
       refine bodyPost_ret (v:=.agg (stL S).toArray) ?_ rfl ⟨⟨S,sv,rfl,HSV.out,HST.out⟩,HBB.out⟩;exact res_state _ _ QZ (stL S) rfl HZB.out rfl
end Go.Proofs.YtnfdfiholcelaaaGreatDoor
