import Derived.Deep.AppendLies
import Derived.Deep.AppendSrc
import Derived.Test.YtnfdfiholcelaaaGreatDoorJh00
import Derived.Test.YtnfdfiholcelaaaGreatDoorJh04
import Derived.Test.YtnfdfiholcelaaaGreatDoorJh06
import Derived.Test.YtnfdfiholcelaaaGreatDoorJh10
import Derived.Test.YtnfdfiholcelaaaGreatDoorJh11
import Derived.Test.YtnfdfiholcelaaaGreatDoorJh14
import Derived.Test.YtnfdfiholcelaaaGreatDoorJh15
import Derived.Test.YtnfdfiholcelaaaGreatDoorJh17
import Derived.Test.YtnfdfiholcelaaaGreatDoorJh21
import Derived.Test.YtnfdfiholcelaaaGreatDoorJh22
import Derived.Test.YtnfdfiholcelaaaGreatDoorJh23
set_option maxRecDepth 100000
set_option maxHeartbeats 20000000
namespace Go.Proofs.YtnfdfiholcelaaaGreatDoor
open Go.RowKit Plain Tryz
def sS1(C:CR)(S:FS)(l:List Rd):FS:={ S with bk:=upd (upd (upd S.bk 2 (vbk (S.bk 2) C.c0 C.c1 (tS l 8) (sS l 8))) 0 (vbk (S.bk 0) (C.a 0 8) (C.a 0 9) (tS l 1) (sS l 1))) 1 (vbk (S.bk 1) (C.a 1 8) (C.a 1 9) (tS l 2) (sS l 2)) }
def vS1(C:CR)(l:List Rd)(sv:Nat→List Sv):Nat→List Sv:=wsx C l sv 2
def sS2(C:CR)(S:FS)(l:List Rd)(sv:Nat→List Sv):FS:={ sS1 C S l with n:=lwM C (sS1 C S l) l (vS1 C l sv) }
def sS3(C:CR)(S:FS)(l:List Rd)(sv:Nat→List Sv):FS:={ sS2 C S l sv with hd:=upd (upd (sS2 C S l sv).hd 0 (mvH C (sS2 C S l sv) l (vS1 C l sv) 0)) 1 (mvH C (sS2 C S l sv) l (vS1 C l sv) 1) }
def vS3(C:CR)(S:FS)(l:List Rd)(sv:Nat→List Sv):Nat→List Sv:=upd (upd (vS1 C l sv) 0 (mvS C (sS2 C S l sv) l (vS1 C l sv) 0)) 1 (mvS C (sS2 C S l sv) l (vS1 C l sv) 1)
structure StOK (K:Nat) (wz:World) (C:CR) (S:FS) (l:List Rd) (sv:Nat→List Sv):Prop where
 v2:Zcz (S.bk 2).b (S.bk 2).l C.c0 C.c1 (tS l 8) (sS l 8)=0
 v0:Zcz (S.bk 0).b (S.bk 0).l (C.a 0 8) (C.a 0 9) (tS l 1) (sS l 1)=0
 v1:Zcz (S.bk 1).b (S.bk 1).l (C.a 1 8) (C.a 1 9) (tS l 2) (sS l 2)=0
 l9:∀i,i<2→(sv i).length≤9
 sW:∀i,i<2→∀k,k<(sv i).length→svE (C.a i 5) (C.a i 6) (C.a i 7) (C.a i 10) (svAt (sv i) k).1 (svAt (sv i) k).2.1 (svAt (sv i) k).2.2=0
 m9:∀i,i<2→(vS1 C l sv i).length≤9
 h0:heE (heM C (sS1 C S l) (vS1 C l sv) 0).1 (heM C (sS1 C S l) (vS1 C l sv) 0).2.1 (heM C (sS1 C S l) (vS1 C l sv) 0).2.2=0
 h1:heE (heM C (sS1 C S l) (vS1 C l sv) 1).1 (heM C (sS1 C S l) (vS1 C l sv) 1).2.1 (heM C (sS1 C S l) (vS1 C l sv) 1).2.2=0
 nB:betw S.n 0 3=true
 m0:MvOK K wz C (sS2 C S l sv) l (vS1 C l sv) 0
 m1:MvOK K wz C (sS2 C S l sv) l (vS1 C l sv) 1
 t9:∀i,i<2→(vS3 C S l sv i).length≤9
 t:∀k,k<(rdA (vS3 C S l sv) (sS3 C S l sv).n).length→Zfa (rat (rdA (vS3 C S l sv) (sS3 C S l sv).n) k)=true
theorem MvOK.rebase{K:Nat}{wz u:World}{C:CR}{S:FS}{l:List Rd}{sv:Nat→List Sv}{i:Nat}(h:MvOK K wz C S l sv i)(hb:Below K wz u):MvOK K u C S l sv i:=
 ⟨h.n1,h.n4,h.m0,h.m1,h.mc,fun v hv=>h.line v (hb.trans hv),h.ok,h.h4,h.h5,h.h3,h.h7,h.h6,h.ho,h.gm⟩
def kS(C:CR)(S:FS)(l:List Rd)(sv:Nat→List Sv)(k:Nat):FS:=if k=0 then S else if k=1 then sS1 C S l else if k=2 then sS1 C S l else if k=3 then sS2 C S l sv else sS3 C S l sv
def kV(C:CR)(S:FS)(l:List Rd)(sv:Nat→List Sv)(k:Nat):Nat→List Sv:=if k=0 then sv else if k=1 then sv else if k=2 then vS1 C l sv else if k=3 then vS1 C l sv else vS3 C S l sv
def fM(k:Nat):Nat:=[58,59,60,61].getD k 0
def fmL(B:Nat):List Value:=[.func (.func 58) #[.pointer (some (Ad B 0))] #[],.func (.func 59) #[.pointer (some (Ad B 0))] #[],.func (.func 60) #[.pointer (some (Ad B 0))] #[],.func (.func 61) #[.pointer (some (Ad B 0))] #[]]
theorem hent4(k:Nat)(hk:k<4)(args:Array Value)(w:World):(callFunc (fM k) args).run prog w=.ok (.enter (fM k) args) w:=by
 rcases(show k=0∨k=1∨k=2∨k=3 by omega) with rfl|rfl|rfl|rfl<;>kernel_rfl
theorem methods_ok{K:Nat}{wz w:World}{B g0 cap4:Nat}{S:FS}{C:CR}{a:Option Addr}{cap:Nat}{l:List Rd}{sv:Nat→List Sv}{G:Nat→Nat}(hf:FR K wz w B S C a cap l sv G)(ho:StOK K wz C S l sv)(hg:Blk 142 w g0 (fmL B))(hB:B<g0)(h0:G 0<g0)(h1:G 1<g0):
 Calls prog 57 #[.slice (some (Ad g0 0)) 4 cap4] w fun r w'=>r=.returned .nilIface∧FR K wz w' B (sS3 C S l sv) C a cap l (vS3 C S l sv) G:=by
 refine(firstError_seq g0 cap4 4 fM (.pointer (some (Ad B 0))) (fun k u=>FR K wz u B (kS C S l sv k) C a cap l (kV C S l sv k) G∧Blk 142 u g0 (fmL B)) (by decide) (fun k u u' h hb=>⟨h.1.later hb,h.2.later hb⟩) ?_ hent4 ?_ w ⟨hf,hg⟩).mono ?_
 · intro k u hk h
   rcases(show k=0∨k=1∨k=2∨k=3 by omega) with rfl|rfl|rfl|rfl
   · exact(h.2.cell (j:=0) rfl).1
   · exact(h.2.cell (j:=1) rfl).1
   · exact(h.2.cell (j:=2) rfl).1
   · exact(h.2.cell (j:=3) rfl).1
 · intro k hk u h
   rcases(show k=0∨k=1∨k=2∨k=3 by omega) with rfl|rfl|rfl|rfl
   · have hr:FR K u u B S C a cap l sv G:=FR.rebase h.1;exact(voteBanks_ok hr ho.v2 ho.v0 ho.v1).mono fun _ u' k=>⟨k.1,FR.up h.1 (show FR K u u' B (sS1 C S l) C a cap l sv G from k.2),FR.beside k.2 h.2 (by omega) (by omega) (by omega)⟩
   · have hr:FR K u u B (sS1 C S l) C a cap l sv G:=FR.rebase h.1;exact(watchServos_ok hr ho.l9 ho.sW).mono fun _ u' k=>⟨k.1,FR.up h.1 (show FR K u u' B (sS1 C S l) C a cap l (vS1 C l sv) G from k.2),FR.beside k.2 h.2 (by omega) (by omega) (by omega)⟩
   · have hr:FR K u u B (sS1 C S l) C a cap l (vS1 C l sv) G:=FR.rebase h.1;exact(chooseLaw_ok hr ho.m9 ho.h0 ho.h1 ho.nB).mono fun _ u' k=>⟨k.1,FR.up h.1 (show FR K u u' B (sS2 C S l sv) C a cap l (vS1 C l sv) G from k.2),FR.beside k.2 h.2 (by omega) (by omega) (by omega)⟩
   · have hr:FR K u u B (sS2 C S l sv) C a cap l (vS1 C l sv) G:=FR.rebase h.1;exact(moveAxes_ok hr (ho.m0.rebase h.1.low) (ho.m1.rebase h.1.low)).mono fun _ u' k=>⟨k.1,FR.up h.1 (show FR K u u' B (sS3 C S l sv) C a cap l (vS3 C S l sv) G from k.2),FR.beside k.2 h.2 (by omega) (by omega) (by omega)⟩
 · rintro r w' ⟨rfl,h⟩;exact⟨rfl,h.1⟩
theorem u32_far{u:World}{g V:Nat}{zs:List Int}(hg:g≠V)(vs:List Value)(o:Nat)(h:U32s u (some (Ad g 0)) zs):U32s (u.setCells V o vs) (some (Ad g 0)) zs:=by
 rcases h with h|⟨b,e,hc⟩
 · exact .inl h
 · simp only[Option.some.injEq,Addr.mk.injEq] at e;obtain⟨rfl,_⟩:=e;exact .inr ⟨g,rfl,fun k hk=>Zdo hg vs o u (hc k hk)⟩
theorem fr_state(S:FS)(C:CR)(x:Value):((frL S C x).drop 0).take 30=stL S:=rfl
theorem res_step(tmps:Array Value)(U:World)(Y:Nat)(cs:List Value)(x y:Value)(h6:tmps.getD 6 undef=.pointer (some (Ad Y 0)))(h7:tmps.getD 7 undef=x)(h8:tmps.getD 8 undef=y)(hR:U.rangeAt Y 0 cs)(hn:cs.length=30):
 (results Tryz.f16 tmps).run prog U=.ok (.tuple #[.agg cs.toArray,x,y]) U:=by
 have h3:tmps[6]?.getD undef=.pointer (some (Ad Y 0)):=by simpa using h6
 have h4:tmps[7]?.getD undef=x:=by simpa using h7
 have h5:tmps[8]?.getD undef=y:=by simpa using h8
 simp[results,results16,h3,h4,h5,asAddr,run_loadVar_mid U Y 0 41 cs _ hR underlying41 rfl (by rw[Zbf,hn])]
theorem fccStep_all(C:CR)(S:FS)(sv:Nat→List Sv)(ws:List Int)(aw:Option Addr)(cw:Nat)(w:World)(hg:GV w)(hl:CrL w C)(hv:SvL w S sv)(hw:Wds w aw ws)(h64:ws.length≤64)(h0:stE C S sv=0)
 (hok:∀K wz S',(S'.bk=S.bk∧S'.hd=S.hd∧S'.n=S.n)→(∀u,Below K wz u→CrL u C)→StOK K wz C S' (gat rdOf ws) sv):
 Calls prog 16 #[.agg (crL C).toArray,.agg (stL S).toArray,.slice aw ws.length cw] w fun e w'=>∃S' g c,e=.returned (.tuple #[.agg (stL (sS3 C S' (gat rdOf ws) sv)).toArray,.slice (some (Ad g 0)) (rdA (vS3 C S' (gat rdOf ws) sv) (sS3 C S' (gat rdOf ws) sv).n).length c,.nilIface])∧(S'.bk=S.bk∧S'.hd=S.hd∧S'.n=S.n)∧SvL w' (sS3 C S' (gat rdOf ws) sv) (vS3 C S' (gat rdOf ws) sv)∧U32s w' (some (Ad g 0)) (pkU (rdA (vS3 C S' (gat rdOf ws) sv) (sS3 C S' (gat rdOf ws) sv).n) (rdA (vS3 C S' (gat rdOf ws) sv) (sS3 C S' (gat rdOf ws) sv).n).length)∧Below w.heap.size w w'∧∀i,i<2→∃G,(sS3 C S' (gat rdOf ws) sv).sp i=some (Ad G 0)∧w.heap.size≤G:=by
 have hgm:(gat rdOf ws).length≤1000:=by have:=Zhm rdOf ws;omega
 have hnf:=fun u (h:Below w.heap.size w u)=>newFrame_ok C S sv ws aw cw u (hg.later h) (hl.later h) (hv.later h) (hw.later h) h64 hgm h0;have HB:Hid (Below w.heap.size w (((w.alloc (.cells (crL C).toArray 29)).alloc (.cells (stL S).toArray 41)).alloc (.cells #[Vi 0,Vi 0,Vi 0,.bool false,.bool false,.bool false,Vi 0,Vi 0,Vi 0,Vi 0,.bool false,.bool false,.bool false,Vi 0,Vi 0,Vi 0,Vi 0,.bool false,.bool false,.bool false,Vi 0,.slice none 0 0,.slice none 0 0,Vi 0,Vi 0,Vi 0,Vi 0,Vi 0,Vi 0,Vi 0] 41))):=Zab (Zac (Zac (Zaa w (.cells (crL C).toArray 29)) (Zaa _ (.cells (stL S).toArray 41))) (Zaa _ (.cells #[Vi 0,Vi 0,Vi 0,.bool false,.bool false,.bool false,Vi 0,Vi 0,Vi 0,Vi 0,.bool false,.bool false,.bool false,Vi 0,Vi 0,Vi 0,Vi 0,.bool false,.bool false,.bool false,Vi 0,.slice none 0 0,.slice none 0 0,Vi 0,Vi 0,Vi 0,Vi 0,Vi 0,Vi 0,Vi 0] 41)));have HC:Hid (World.rangeAt (((w.alloc (.cells (crL C).toArray 29)).alloc (.cells (stL S).toArray 41)).alloc (.cells #[Vi 0,Vi 0,Vi 0,.bool false,.bool false,.bool false,Vi 0,Vi 0,Vi 0,Vi 0,.bool false,.bool false,.bool false,Vi 0,Vi 0,Vi 0,Vi 0,.bool false,.bool false,.bool false,Vi 0,.slice none 0 0,.slice none 0 0,Vi 0,Vi 0,Vi 0,Vi 0,Vi 0,Vi 0,Vi 0] 41)) w.heap.size 0 (crL C)):=Zab ((((Blk.new w 29 (crL C)).later (Zaa _ (.cells (stL S).toArray 41))).later (Zaa _ (.cells #[Vi 0,Vi 0,Vi 0,.bool false,.bool false,.bool false,Vi 0,Vi 0,Vi 0,Vi 0,.bool false,.bool false,.bool false,Vi 0,Vi 0,Vi 0,Vi 0,.bool false,.bool false,.bool false,Vi 0,.slice none 0 0,.slice none 0 0,Vi 0,Vi 0,Vi 0,Vi 0,Vi 0,Vi 0,Vi 0] 41))).range)
 have HS:Hid (World.rangeAt (((w.alloc (.cells (crL C).toArray 29)).alloc (.cells (stL S).toArray 41)).alloc (.cells #[Vi 0,Vi 0,Vi 0,.bool false,.bool false,.bool false,Vi 0,Vi 0,Vi 0,Vi 0,.bool false,.bool false,.bool false,Vi 0,Vi 0,Vi 0,Vi 0,.bool false,.bool false,.bool false,Vi 0,.slice none 0 0,.slice none 0 0,Vi 0,Vi 0,Vi 0,Vi 0,Vi 0,Vi 0,Vi 0] 41)) (w.heap.size+1) 0 (stL S)):=Zab (by have:=((Blk.new (w.alloc (.cells (crL C).toArray 29)) 41 (stL S)).later (Zaa _ (.cells #[Vi 0,Vi 0,Vi 0,.bool false,.bool false,.bool false,Vi 0,Vi 0,Vi 0,Vi 0,.bool false,.bool false,.bool false,Vi 0,Vi 0,Vi 0,Vi 0,.bool false,.bool false,.bool false,Vi 0,.slice none 0 0,.slice none 0 0,Vi 0,Vi 0,Vi 0,Vi 0,Vi 0,Vi 0,Vi 0] 41))).range;rw[World.size_alloc] at this;exact this);have HY:Hid (Blk 41 (((w.alloc (.cells (crL C).toArray 29)).alloc (.cells (stL S).toArray 41)).alloc (.cells #[Vi 0,Vi 0,Vi 0,.bool false,.bool false,.bool false,Vi 0,Vi 0,Vi 0,Vi 0,.bool false,.bool false,.bool false,Vi 0,Vi 0,Vi 0,Vi 0,.bool false,.bool false,.bool false,Vi 0,.slice none 0 0,.slice none 0 0,Vi 0,Vi 0,Vi 0,Vi 0,Vi 0,Vi 0,Vi 0] 41)) (w.heap.size+1+1) [Vi 0,Vi 0,Vi 0,.bool false,.bool false,.bool false,Vi 0,Vi 0,Vi 0,Vi 0,.bool false,.bool false,.bool false,Vi 0,Vi 0,Vi 0,Vi 0,.bool false,.bool false,.bool false,Vi 0,.slice none 0 0,.slice none 0 0,Vi 0,Vi 0,Vi 0,Vi 0,Vi 0,Vi 0,Vi 0]):=Zab (by have:=Blk.new ((w.alloc (.cells (crL C).toArray 29)).alloc (.cells (stL S).toArray 41)) 41 [Vi 0,Vi 0,Vi 0,.bool false,.bool false,.bool false,Vi 0,Vi 0,Vi 0,Vi 0,.bool false,.bool false,.bool false,Vi 0,Vi 0,Vi 0,Vi 0,.bool false,.bool false,.bool false,Vi 0,.slice none 0 0,.slice none 0 0,Vi 0,Vi 0,Vi 0,Vi 0,Vi 0,Vi 0,Vi 0];rw[World.size_alloc,World.size_alloc] at this;exact this);have HL:=Zab hl;have HOK:=Zab hok;clear hg hl hv hw h0 hok;generalize hgl:gat rdOf ws=l at*
 have hYw:w.heap.size≤w.heap.size+1+1:=by omega
 go_enter func16,ntmps16
 go_upto_region 1 with fail;generalize (((w.alloc (.cells (crL C).toArray 29)).alloc (.cells (stL S).toArray 41)).alloc (.cells #[Vi 0,Vi 0,Vi 0,.bool false,.bool false,.bool false,Vi 0,Vi 0,Vi 0,Vi 0,.bool false,.bool false,.bool false,Vi 0,Vi 0,Vi 0,Vi 0,.bool false,.bool false,.bool false,Vi 0,.slice none 0 0,.slice none 0 0,Vi 0,Vi 0,Vi 0,Vi 0,Vi 0,Vi 0,Vi 0] 41))=v0 at *;generalize w.heap.size+1+1=Y at*
 go_upto_region 4 with(first
  |(refine Lq 29 _ rfl ?_;refine wpList_load_mid rfl 29 (.tmp 3) rfl w.heap.size 0 rfl (crL C) _ HC.out underlying29 rfl Zaw ?_)
  |(refine Lq 41 _ rfl ?_;refine wpList_load_mid rfl 41 (.tmp 4) rfl (w.heap.size+1) 0 rfl (stL S) _ HS.out underlying41 rfl Zbf ?_)
  |(go_at_call 56;refine(hnf _ HB.out).mono ?_;rintro e v1 ⟨B,S',a,cap,G,rfl,hS',hf⟩;have HF:=Zab hf;have HS':=Zab hS';clear hf hS'))
 have HST:=Zab (HOK.out v0.heap.size v0 S' HS'.out (fun u hu=>HL.out.later (Zac HB.out hu)));have HGB:Hid (Blk 142 (v1.alloc (.cells (fmL B).toArray 142)) v1.heap.size (fmL B)):=Zab (Blk.new v1 _ _);have hB1:=HF.out.lt;have hG0:=(HF.out.servo 0 (by omega)).2.2.1.lt;have hG1:=(HF.out.servo 1 (by omega)).2.2.1.lt;have hYv:=HY.out.lt;have HF2:=Zab (HF.out.later (Zaa v1 (.cells (fmL B).toArray 142)));clear HF hnf HC HS HOK HL
 go_upto_region 7 with(go_at_call 57;refine Sb (methods_ok HF2.out HST.out HGB.out hB1 hG0 hG1) fun v3 hf=>?_;have HF3:=Zab hf;clear hf);have hv3:=HF3.out.low.size;clear HF2 HGB hB1 hG0 hG1
 go_upto_region 10 with(go_at_call 62;refine(tell_ok HF3.out HST.out.t9 HST.out.t).mono ?_;rintro e v4 ⟨⟨g,c,rfl,hgw,hu⟩,hb⟩;have HU:=Zab hu;have HGW:=Zab hgw;have HF4:=Zab (HF3.out.later hb);clear hu hgw hb HF3);have HR:=Zab (HF4.out.blk.sub 0 30);rw[fr_state] at HR;have HY4:Hid (Blk 41 v4 Y [Vi 0,Vi 0,Vi 0,.bool false,.bool false,.bool false,Vi 0,Vi 0,Vi 0,Vi 0,.bool false,.bool false,.bool false,Vi 0,Vi 0,Vi 0,Vi 0,.bool false,.bool false,.bool false,Vi 0,.slice none 0 0,.slice none 0 0,Vi 0,Vi 0,Vi 0,Vi 0,Vi 0,Vi 0,Vi 0]):=Zab ((HF4.out.low.block Y HY.out.lt).trans HY.out);have HT:=Zab (HY4.out.there (o:=0) (n:=30) (by decide));have h9:=HST.out.t9;generalize hT:sS3 C S' l sv=T at *;generalize hV:vS3 C S' l sv=V at*
 go_wp2_with (first
  |(refine Lq 41 _ rfl ?_;refine wpList_load_mid rfl 41 (.tmp 49) rfl B 0 rfl (stL T) _ HR.out underlying41 rfl Zbf ?_)
  |(refine Sq 41 _ _ rfl ?_;refine wpList_store_mid rfl 41 (.tmp 6) (.tmp 50) rfl Y 0 (stL T).toArray rfl rfl HT.out Zbf (Zaq _ rfl) ?_))
 have HRR:Hid ((World.setCells v4 Y 0 (stL T)).rangeAt Y 0 (stL T)):=Zab (World.rangeAt_setCells_same v4 Y 0 (stL T) HT.out);refine bodyPost_ret (v:=.tuple #[.agg (stL T).toArray,.slice (some (Ad g 0)) (rdA V T.n).length c,.nilIface]) (res_step _ _ Y (stL T) _ _ rfl rfl rfl HRR.out rfl) rfl ⟨S',g,c,?_,HS'.out,fun i hi=>?_,?_,?_,fun i hi=>?_⟩
 · rw[hT,hV]
 · rw[hT,hV];refine⟨(HF4.out.servo i hi).2.1,h9 i hi,?_⟩;rw[(HF4.out.servo i hi).1];exact blk_vls (Blk.farCells (show G i≠Y by have:=(HF4.out.servo i hi).2.2.2.1;omega) (stL T) 0 v4 (HF4.out.servo i hi).2.2.1)
 · rw[hT,hV];exact u32_far (by have:=HGW.out;omega) (stL T) 0 HU.out
 · exact Zag (stL T) 0 v4 (Zac HB.out HF4.out.low) hYw
 · rw[hT];exact⟨G i,(HF4.out.servo i hi).1,Nat.le_trans HB.out.size (HF4.out.servo i hi).2.2.2.1⟩
theorem fccStep_ok(C:CR)(S:FS)(sv:Nat→List Sv)(ws:List Int)(aw:Option Addr)(cw:Nat)(w:World)(hg:GV w)(hl:CrL w C)(hv:SvL w S sv)(hw:Wds w aw ws)(h64:ws.length≤64)(h0:stE C S sv=0)
 (hok:∀K wz S',(S'.bk=S.bk∧S'.hd=S.hd∧S'.n=S.n)→(∀u,Below K wz u→CrL u C)→StOK K wz C S' (gat rdOf ws) sv):
 Calls prog 16 #[.agg (crL C).toArray,.agg (stL S).toArray,.slice aw ws.length cw] w fun e w'=>∃S' g c,e=.returned (.tuple #[.agg (stL (sS3 C S' (gat rdOf ws) sv)).toArray,.slice (some (Ad g 0)) (rdA (vS3 C S' (gat rdOf ws) sv) (sS3 C S' (gat rdOf ws) sv).n).length c,.nilIface])∧(S'.bk=S.bk∧S'.hd=S.hd∧S'.n=S.n)∧SvL w' (sS3 C S' (gat rdOf ws) sv) (vS3 C S' (gat rdOf ws) sv)∧U32s w' (some (Ad g 0)) (pkU (rdA (vS3 C S' (gat rdOf ws) sv) (sS3 C S' (gat rdOf ws) sv).n) (rdA (vS3 C S' (gat rdOf ws) sv) (sS3 C S' (gat rdOf ws) sv).n).length)∧Below w.heap.size w w':=
 (fccStep_all C S sv ws aw cw w hg hl hv hw h64 h0 hok).mono fun _ _ ⟨S',g,c,h1,h2,h3,h4,h5,_⟩=>⟨S',g,c,h1,h2,h3,h4,h5⟩
theorem fnd_mem{a b:Int}:∀{l:List Rd} {r:Rd},fnd a b l=some r→r∈l
 |[],_,h=>by cases h
 |x::t,r,h=>by
  unfold fnd at h
  split at h
  · cases h;simp
  · exact List.mem_cons_of_mem _ (fnd_mem h)
theorem dat_bd(x:Int):-262144≤datI x∧datI x≤262143:=by
 unfold datI;split<;>omega
theorem smp_bd(ws:List Int)(x y:Int):-262144≤(smp (gat rdOf ws) x y).2∧(smp (gat rdOf ws) x y).2≤262143:=by
 unfold smp
 cases h:fnd x y (gat rdOf ws) with
 |none=>simp
 |some r=>
  obtain⟨z,_,hz⟩:=gat_mem rdOf ws r (fnd_mem h)
  have hd:-262144≤r.2.2.2∧r.2.2.2≤262143:=by
   unfold rdOf at hz
   split at hz
   · cases hz;exact dat_bd z
   · cases hz
  dsimp only
  split
  · exact hd
  · simp
theorem samp_ok(ws:List Int)(x:Int):Zgq (tS (gat rdOf ws) x) (sS (gat rdOf ws) x) 3=true:=by
 have h:∀k,Zba (sS (gat rdOf ws) x k)=true:=fun k=>by
  unfold sS Zba
  have a:=smp_bd ws x 0;have b:=smp_bd ws x 1;have c:=smp_bd ws x 2;simp only[Bool.and_eq_true,decide_eq_true_eq]
  split
  · omega
  · split<;>omega
 simp[Zgq,h]
theorem stepE_ok{b:Nat→Int}{l m c:Int}{t:Nat→Bool}{s:Nat→Int}(h1:Zdh m c=0)(h2:Zcf b l=0)(h3:Zgq t s 3=true):Zcz b l m c t s=0:=by
 unfold Zcz;rw[if_pos h1,if_pos h2,if_pos h3]
theorem wv_ok{C:CR}{l:List Rd}{i k:Nat}{s:Sv}(hs:svB (C.a i 5) (C.a i 10) s.1 s.2.1 s.2.2=true)(hr:arB (C.a i 5) (C.a i 6) (C.a i 7) (C.a i 10)=true):svB (C.a i 5) (C.a i 10) (wv C l i k s).1 (wv C l i k s).2.1 (wv C l i k s).2.2=true:=by
 obtain⟨⟨i0,i1⟩,⟨b0,b1⟩,ho,hb⟩:=Zbd hs;have ha:=(Zat hr).1
 unfold wv wI wB wO
 dsimp only
 generalize hf:Zhq (C.a i 7) s.1 (smp l (16+4*(i:Int)+(k:Int)) 3).2 s.2.2 (smp l (16+4*(i:Int)+(k:Int)) 3).1=f
 cases f
 · have hso:s.2.2=false:=by
    unfold Zhq at hf
    cases h:s.2.2
    · rfl
    · rw[h] at hf;simp at hf
   have:=hb hso;simp only[Bool.false_eq_true,if_false]
   by_cases e:s.2.1+1=C.a i 10
   · rw[if_pos e];exact sv_mk (by omega) (by omega) (fun _=>rfl) (fun h=>by simp[e] at h)
   · rw[if_neg e];exact sv_mk (by omega) (by omega) (fun h=>by simp[e] at h) (fun _=>by omega)
 · simp only[if_true];exact hs
theorem wml_get(C:CR)(l:List Rd)(i:Nat)(L:List Sv){j:Nat}(hj:j<L.length):svAt (wml C l i L L.length) j=wv C l i j (svAt L j):=by
 simp[wml,svAt,hj]
theorem vS1_at(C:CR)(l:List Rd)(sv:Nat→List Sv){i:Nat}(hi:i<2):vS1 C l sv i=wml C l i (sv i) (sv i).length:=by
 unfold vS1 wsx;rw[if_pos hi]
theorem Zeg(C:CR)(l:List Rd)(sv:Nat→List Sv){i:Nat}(hi:i<2):(vS1 C l sv i).length=(sv i).length:=by
 rw[vS1_at C l sv hi,Zgo]
theorem neI_bd{a b:Int}(g:Bool)(ha:betw a 0 3=true)(hb:betw b 0 3=true):betw (neI a b g) 0 3=true:=by
 unfold neI
 rw[ha,hb];simp only[Bool.and_self,if_true]
 cases g
 · simp only[Bool.false_eq_true,if_false]
   unfold mxL
   split<;>assumption
 · exact hb
theorem clE_zero{n:Int}(h:clE n=0):betw n 0 3=true:=by
 unfold clE at h
 split at h
 · assumption
 · cases h
theorem Zee{x a b:Int}(h:a≤x∧x≤b):betw x a b=true:=by
 simp only[betw,Bool.and_eq_true,decide_eq_true_eq];omega
section
variable {C : CR} {S S' : FS} {sv : Nat → List Sv} {ws : List Int}
theorem stE_same(h:S'.bk=S.bk∧S'.hd=S.hd∧S'.n=S.n):stE C S' sv=stE C S sv:=by
 unfold stE
 have:eSt C S' sv=eSt C S sv:=by funext k;unfold eSt;rw[h.1,h.2.1,h.2.2]
 rw[this]
theorem he_ok(h:stE C S sv=0){i:Nat}(hi:i<2)(T:FS):heE (heM C T (vS1 C (gat rdOf ws) sv) i).1 (heM C T (vS1 C (gat rdOf ws) sv) i).2.1 (heM C T (vS1 C (gat rdOf ws) sv) i).2.2=0:=by
 have a:=leftU_bd (T.bk i).o 3;have b:=sndU_bd (vS1 C (gat rdOf ws) sv i) (vS1 C (gat rdOf ws) sv i).length;have c:=(Zfl h hi).1;have d:=stE_sv h hi;rw[Zeg C _ sv hi] at b
 unfold heM heE heB
 dsimp only
 rw[Zeg C _ sv hi];rw[if_pos];simp only[Bool.and_eq_true];refine⟨⟨Zee (by omega),Zee (by omega)⟩,Zee ?_⟩
 omega
theorem law_ok(h:stE C S sv=0)(T:FS)(hT:T.n=S.n):betw (lwM C T (gat rdOf ws) (vS1 C (gat rdOf ws) sv)) 0 3=true:=by
 unfold lwM
 exact neI_bd _ (by rw[hT];exact clE_zero ((Zbh h).2 0 (by omega))) (waI_bd (he_ok h (by omega) T) (he_ok h (by omega) T))
theorem vS1_ok(h:stE C S sv=0){i:Nat}(hi:i<2):AllOk (C.a i 5) (C.a i 6) (C.a i 7) (C.a i 10) (vS1 C (gat rdOf ws) sv i):=by
 have hr:=arE_arB (show arE (C.a i 5) (C.a i 6) (C.a i 7) (C.a i 10)=0 from Zde (Zbh h).1 hi (k:=2) (by omega));refine⟨hr,fun k hk=>?_⟩;rw[Zeg C _ sv hi] at hk;rw[vS1_at C _ sv hi,wml_get C _ i (sv i) hk];exact wv_ok (Zhf (seU_all _ (Zfl h hi).2 k hk)).2 hr
theorem hold_ok(h:stE C S sv=0){i:Nat}(hi:i<2):stB (C.a i 0) (C.a i 1) (moI C i) (S.hd i).1 (S.hd i).2.1 (S.hd i).2.2=true:=by
 have:chE C i (S.hd i)=0:=by
  rcases(show i=0∨i=1 by omega) with rfl|rfl
  · exact(Zbh h).2 5 (by omega)
  · exact(Zbh h).2 7 (by omega)
 exact(Zec this).2.1
theorem pv_in(C:CR)(i:Nat)(L:List Sv)(hm:1≤moI C i):-moI C i≤pvI C i L∧pvI C i L≤moI C i:=Zcd (v:=smU L L.length) (show -moI C i≤moI C i by omega)
theorem mv_ok(h:stE C S sv=0){K:Nat}{wz:World}(hl:∀u,Below K wz u→CrL u C){i:Nat}(hi:i<2)(T:FS)(hT:T.hd=S.hd)(hn:betw T.n 0 3=true):MvOK K wz C T (gat rdOf ws) (vS1 C (gat rdOf ws) sv) i:=by
 have hc:=axC_of (Zbh h).1 (hl wz (Below.refl _ _)) hi;have d:=stE_sv h hi;have hru:ruE (C.a i 0) (C.a i 1) (C.a i 11) (C.a i 14) (moI C i) (C.al i) (C.zl i)=0:=Zde (Zbh h).1 hi (k:=4) (by omega);have hgr:grE (C.a i 0) (C.a i 1) (C.a i 2) (puI C i) (moI C i) (raI C i)=0:=Zde (Zbh h).1 hi (k:=3) (by omega);have hm:1≤moI C i:=(Zdb (Zda hru).1).2.2.2.2.1;have hp:=pv_in C i (vS1 C (gat rdOf ws) sv i) hm;refine⟨by rw[Zeg C _ sv hi];omega,by rw[Zeg C _ sv hi];omega,hc.m0,hc.m1,hc.mc,fun u hu=>⟨(hl u hu i hi).2.2.2.1,(hl u hu i hi).2.2.2.2⟩,vS1_ok h hi,hc.h4,hc.h5,hc.h3,hc.h7,hc.h6,?_,?_⟩
 · unfold hoE
   rw[if_pos hru,hT,if_pos (hold_ok h hi),if_pos]
   unfold asB
   rw[hn,Zee hp];have:=Zcd (v:=(smp (gat rdOf ws) (32+(i:Int)) 3).2) (show(-100:Int)≤100 by omega)
   unfold skI
   rw[Zee this]
   rfl
 · unfold gmE
   rw[if_pos hgr,if_pos (Zee hp)]
theorem Zgr{l m:List Rd}{k:Nat}(hk:k<l.length):rat (l++m) k=rat l k:=by
 unfold rat;rw[List.getD_eq_getElem?_getD,List.getD_eq_getElem?_getD,List.getElem?_append_left hk]
theorem Zfp{l m:List Rd}{k:Nat}(hk:l.length≤k):rat (l++m) k=rat m (k-l.length):=by
 unfold rat;rw[List.getD_eq_getElem?_getD,List.getD_eq_getElem?_getD,List.getElem?_append_right hk]
theorem rdU_at(i:Nat)(L:List Sv):∀n k,k<n→rat (rdU i L n) k=rd1 i L k
 |0,k,h=>by omega
 |n+1,k,h=>by
  rw[rdU]
  by_cases e:k=n
  · subst e;rw[Zfp (by rw[Zfo];omega),Zfo,Nat.sub_self];rfl
  · rw[Zgr (by rw[Zfo];omega)];exact rdU_at i L n k (by omega)
theorem rd1_may{i:Nat}(hi:i<2){L:List Sv}{k:Nat}(hk:k<9)(h:-2000≤(svAt L k).1∧(svAt L k).1≤2000):Zfa (rd1 i L k)=true:=by
 unfold Zfa rd1 mayR
 simp only[Bool.and_eq_true,decide_eq_true_eq];refine⟨⟨⟨⟨by omega,by omega⟩,by omega⟩,?_⟩,by omega,by omega⟩
 split<;>omega
theorem rdA_may{v:Nat→List Sv}{n:Int}(h9:∀i,i<2→(v i).length≤9)(hv:∀i,i<2→∀k,k<(v i).length→-2000≤(svAt (v i) k).1∧(svAt (v i) k).1≤2000)(hn:0≤n∧n≤3):∀k,k<(rdA v n).length→Zfa (rat (rdA v n) k)=true:=by
 intro k hk;have a0:=h9 0 (by omega);have a1:=h9 1 (by omega)
 have e0:rdX v 1=rdU 0 (v 0) (v 0).length:=by simp[rdX]
 have e1:rdX v 2=rdX v 1++rdU 1 (v 1) (v 1).length:=rfl
 have l0:(rdX v 1).length=(v 0).length:=by rw[e0,Zfo]
 have l1:(rdX v 2).length=(v 0).length+(v 1).length:=by rw[e1,List.length_append,l0,Zfo]
 have hl:(rdA v n).length=(v 0).length+(v 1).length+1:=by rw[rdA,List.length_append,l1];rfl
 unfold rdA
 by_cases h2:k<(rdX v 2).length
 · rw[Zgr h2,e1]
   by_cases h1:k<(rdX v 1).length
   · rw[Zgr h1,e0,rdU_at 0 _ _ k (by omega)];exact rd1_may (by omega) (by omega) (hv 0 (by omega) k (by omega))
   · rw[Zfp (by omega),l0,rdU_at 1 _ _ _ (by omega)];exact rd1_may (by omega) (by omega) (hv 1 (by omega) _ (by omega))
 · rw[Zfp (by omega),show k-(rdX v 2).length=0 by omega]
   unfold rat Zfa mayR
   simp only[List.getD_cons_zero,Bool.and_eq_true,decide_eq_true_eq]
   omega
theorem plI_bd2{T R S C:Int}{L:List Sv}(h:AllOk T R S C L)(s:Int){k:Nat}(hk:k<L.length):-2000≤(plI T R L s).getD k 0∧(plI T R L s).getD k 0≤2000:=by
 have g:∀(v s:Int) n k,k<n→(dlU T R L v s n).getD k 0=dlI T R L v s k:=by
  intro v s n
  induction n with
  |zero=>intro k h;omega
  |succ n ih=>
   intro k h;rw[dlU,List.getD_eq_getElem?_getD]
   by_cases e:k=n
   · subst e;rw[List.getElem?_append_right (by rw[Zcn];omega),Zcn];simp
   · rw[List.getElem?_append_left (by rw[Zcn];omega),←List.getD_eq_getElem?_getD];exact ih k (by omega)
 unfold plI
 rw[g _ _ _ _ hk];have a:=tk_bd h hk (levI T R L (smI T R L s))
 unfold dlI
 split<;>omega
theorem mvS_len(T:FS)(l:List Rd)(v:Nat→List Sv)(i:Nat):(mvS C T l v i).length=(v i).length:=sik_len _ _ _
theorem mvS_bd(T:FS)(l:List Rd)(v:Nat→List Sv)(i:Nat)(h:AllOk (C.a i 5) (C.a i 6) (C.a i 7) (C.a i 10) (v i)){k:Nat}(hk:k<(v i).length):-2000≤(svAt (mvS C T l v i) k).1∧(svAt (mvS C T l v i) k).1≤2000:=by
 unfold mvS svM
 rw[sik_end _ _ hk];exact plI_bd2 h _ hk
theorem stOK_of(h:stE C S sv=0)(K:Nat)(wz:World)(hs:S'.bk=S.bk∧S'.hd=S.hd∧S'.n=S.n)(hl:∀u,Below K wz u→CrL u C):StOK K wz C S' (gat rdOf ws) sv:=by
 have h':stE C S' sv=0:=by rw[stE_same hs];exact h
 clear h hs
 have hb:∀j,j<3→Zcf (S'.bk j).b (S'.bk j).l=0:=fun j hj=>by
  rcases(show j=0∨j=1∨j=2 by omega) with rfl|rfl|rfl
  · exact(Zbh h').2 1 (by omega)
  · exact(Zbh h').2 2 (by omega)
  · exact(Zbh h').2 3 (by omega)
 have hr:∀i,i<2→Zdh (C.a i 8) (C.a i 9)=0:=fun i hi=>Zde (Zbh h').1 hi (k:=1) (by omega);have hn:betw S'.n 0 3=true:=clE_zero ((Zbh h').2 0 (by omega))
 have h9:∀i,i<2→(sv i).length≤9:=fun i hi=>by have:=stE_sv h' hi;omega
 have hlw:betw (sS2 C S' (gat rdOf ws) sv).n 0 3=true:=law_ok h' _ rfl
 have hv3:∀i,i<2→vS3 C S' (gat rdOf ws) sv i=mvS C (sS2 C S' (gat rdOf ws) sv) (gat rdOf ws) (vS1 C (gat rdOf ws) sv) i:=fun i hi=>by
  rcases(show i=0∨i=1 by omega) with rfl|rfl<;>rfl
 have h3l:∀i,i<2→(vS3 C S' (gat rdOf ws) sv i).length=(sv i).length:=fun i hi=>by rw[hv3 i hi,mvS_len,Zeg C _ sv hi]
 have hnb:=Zas hlw
 exact⟨stepE_ok (crE_speed (Zbh h').1) (hb 2 (by omega)) (samp_ok ws 8),stepE_ok (hr 0 (by omega)) (hb 0 (by omega)) (samp_ok ws 1),stepE_ok (hr 1 (by omega)) (hb 1 (by omega)) (samp_ok ws 2),h9,
  fun i hi k hk=>seU_all _ (Zfl h' hi).2 k hk,fun i hi=>by rw[Zeg C _ sv hi];exact h9 i hi,he_ok h' (by omega) _,he_ok h' (by omega) _,hn,mv_ok h' hl (by omega) _ rfl hlw,mv_ok h' hl (by omega) _ rfl hlw,
  fun i hi=>by rw[h3l i hi];exact h9 i hi,rdA_may (fun i hi=>by rw[h3l i hi];exact h9 i hi) (fun i hi k hk=>by
   rw[h3l i hi] at hk;rw[hv3 i hi]
   exact mvS_bd _ _ _ _ (vS1_ok h' hi) (by rw[Zeg C _ sv hi];exact hk)) hnb⟩
end
theorem stE_mk{C:CR}{S:FS}{sv:Nat→List Sv}(h:crE C=0)(k:∀k,k<8→eSt C S sv k=0):stE C S sv=0:=by
 unfold stE;rw[if_pos h,if_pos (Zel k)]
theorem bankE_zero{b:Nat→Int}{l:Int}(h:Zcf b l=0):okU b 3=true∧Zba l=true:=by
 unfold Zcf at h
 split at h
 · rename_i c;simpa using c
 · cases h
theorem bankE_mk{b:Nat→Int}{l:Int}(h:∀k,k<3→0≤b k∧b k≤10)(hl:-1000000≤l∧l≤1000000):Zcf b l=0:=by
 have g:∀k,k<3→gb (b k)=true:=fun k hk=>by simp only[gb,Bool.and_eq_true,decide_eq_true_eq];exact h k hk
 unfold Zcf
 rw[if_pos];simp only[okU,g 0 (by omega),g 1 (by omega),g 2 (by omega),Zba,Bool.and_true,Bool.and_eq_true,decide_eq_true_eq];exact⟨trivial,hl⟩
theorem bank_step{k:Bk}{m c:Int}{t:Nat→Bool}{s:Nat→Int}(h:Zcf k.b k.l=0)(hs:Zgq t s 3=true):Zcf (vbk k m c t s).b (vbk k m c t s).l=0:=by
 obtain⟨h1,h2⟩:=bankE_zero h;have hw:=Zdl h2;refine bankE_mk (fun j hj=>?_) (votI_bd (fit_of hs) hw.1 hw.2);have hb:=okU_true h1 j hj
 show 0≤nbI t k.o s k.b _ m j∧nbI t k.o s k.b _ m j≤10
 unfold nbI badI
 split
 · exact hb
 · split
   · omega
   · split<;>omega
theorem dlU_get(T R:Int)(L:List Sv)(v s:Int):∀n k,k<n→(dlU T R L v s n).getD k 0=dlI T R L v s k:=by
 intro n
 induction n with
 |zero=>intro k h;omega
 |succ n ih=>
  intro k h;rw[dlU,List.getD_eq_getElem?_getD]
  by_cases e:k=n
  · subst e;rw[List.getElem?_append_right (by rw[Zcn];omega),Zcn];simp
  · rw[List.getElem?_append_left (by rw[Zcn];omega),←List.getD_eq_getElem?_getD];exact ih k (by omega)
theorem fdl_in{T R S C:Int}{L:List Sv}(h:AllOk T R S C L)(v s:Int){k:Nat}(hk:k<L.length):loR T R (svAt L k).1 (svAt L k).2.2≤dlI T R L v s k∧dlI T R L v s k≤hiR T R (svAt L k).1 (svAt L k).2.2:=by
 have a:=Zcd (v:=v) (h.le hk);have b:=Zcd (v:=v+1) (h.le hk)
 unfold dlI tk
 split<;>omega
theorem pl_ok{T R S C:Int}{L:List Sv}(h:AllOk T R S C L)(s:Int){k:Nat}(hk:k<L.length):svB T C ((plI T R L s).getD k 0) (svAt L k).2.1 (svAt L k).2.2=true:=by
 unfold plI
 rw[dlU_get _ _ _ _ _ _ _ hk];have a:=fdl_in h (levI T R L (smI T R L s)) (smI T R L s-tot T R L (levI T R L (smI T R L s))) hk;have b:=Zbd (h.2 k hk);have t:=(Zat h.1).1;generalize dlI T R L _ _ k=x at*
 unfold loR hiR mxA mnA at a
 cases ho:(svAt L k).2.2
 · rw[ho] at a b;simp only[Bool.false_eq_true,if_false] at a;exact sv_mk (by omega) (by omega) (fun h=>by cases h) (fun _=>b.2.2.2 rfl)
 · rw[ho] at a b;simp only[if_true] at a;exact sv_mk (by omega) (by omega) (fun _=>by omega) (fun h=>by cases h)
theorem seU_mk{C:CR}{i:Nat}{L:List Sv}:∀n,(∀k,k<n→svE (C.a i 5) (C.a i 6) (C.a i 7) (C.a i 10) (svAt L k).1 (svAt L k).2.1 (svAt L k).2.2=0)→seU C i L n=0
 |0,_=>rfl
 |n+1,h=>by
  rw[seU,if_pos (seU_mk n fun k hk=>h k (by omega))];exact h n (by omega)
theorem hold_step{C:CR}{i:Nat}{h:Int×Int×Int}{k x v n:Int}{L:List Sv}(h0:chE C i h=0)(hn:betw n 0 3=true)(hm:1≤moI C i):chE C i (hoM C i h k x v n L)=0:=by
 obtain⟨r,s,a⟩:=Zec (show hoE _ _ _ _ _ _ _ _ _ _ _ _ _=0 from h0);have hs:=Zhg s
 unfold chE hoE
 rw[if_pos r,if_pos,if_pos a]
 unfold stB hoM
 simp only[Bool.and_eq_true];refine⟨⟨Zee ?_,Zee ?_⟩,hn⟩
 · show _≤haM C i h k x n∧haM C i h k x n≤_
   unfold haM wA a2I
   split
   · exact Zcd (by omega)
   · exact hs.1
 · have hd:-moI C i≤hdM C i h k x v n L∧hdM C i h k x v n L≤moI C i:=by
    unfold hdM wD d2I
    split
    · split
      · exact hs.2.1
      · exact Zcd (by omega)
    · exact hs.2.1
   unfold toD
   split
   · exact Zcd (by omega)
   · exact hd
section
variable {C : CR} {S : FS} {sv : Nat → List Sv} {ws : List Int}
theorem fv3_at(l:List Rd){i:Nat}(hi:i<2):vS3 C S l sv i=mvS C (sS2 C S l sv) l (vS1 C l sv) i:=by
 rcases(show i=0∨i=1 by omega) with rfl|rfl<;>rfl
theorem fv3_len(l:List Rd){i:Nat}(hi:i<2):(vS3 C S l sv i).length=(sv i).length:=by rw[fv3_at l hi,mvS_len,Zeg C _ sv hi]
theorem mo_pos(h:crE C=0){i:Nat}(hi:i<2):1≤moI C i:=
 (Zdb (Zda (show ruE (C.a i 0) (C.a i 1) (C.a i 11) (C.a i 14) (moI C i) (C.al i) (C.zl i)=0 from Zde h hi (k:=4) (by omega))).1).2.2.2.2.1
theorem stE_step(h:stE C S sv=0):stE C (sS3 C S (gat rdOf ws) sv) (vS3 C S (gat rdOf ws) sv)=0:=by
 have h8:=(Zbh h).2;have hl:=law_ok (ws:=ws) h (sS1 C S (gat rdOf ws)) rfl
 have hcs:∀i,i<2→csE C i (vS3 C S (gat rdOf ws) sv i)=0:=fun i hi=>by
  unfold csE
  rw[fv3_len _ hi,if_pos (Zfl h hi).1];refine seU_mk _ fun k hk=>?_;have ha:=vS1_ok (ws:=ws) h hi;refine svE_mk ha.1 ?_
  have hk':k<(vS1 C (gat rdOf ws) sv i).length:=by rw[Zeg C _ sv hi];exact hk
  rw[fv3_at _ hi]
  unfold mvS svM
  rw[sik_end _ _ hk'];exact pl_ok ha _ hk'
 have hch:∀i,i<2→chE C i (S.hd i)=0:=fun i hi=>by
  rcases(show i=0∨i=1 by omega) with rfl|rfl
  · exact h8 5 (by omega)
  · exact h8 7 (by omega)
 refine stE_mk (Zbh h).1 fun k hk=>?_
 rcases(show k=0∨k=1∨k=2∨k=3∨k=4∨k=5∨k=6∨k=7 by omega) with rfl|rfl|rfl|rfl|rfl|rfl|rfl|rfl
 · show clE (lwM C (sS1 C S (gat rdOf ws)) (gat rdOf ws) (vS1 C (gat rdOf ws) sv))=0
   unfold clE;rw[if_pos hl]
 · exact bank_step (h8 1 (by omega)) (samp_ok ws 1)
 · exact bank_step (h8 2 (by omega)) (samp_ok ws 2)
 · exact bank_step (h8 3 (by omega)) (samp_ok ws 8)
 · exact hcs 0 (by omega)
 · exact hold_step (hch 0 (by omega)) hl (mo_pos (Zbh h).1 (by omega))
 · exact hcs 1 (by omega)
 · exact hold_step (hch 1 (by omega)) hl (mo_pos (Zbh h).1 (by omega))
end
abbrev Ft:=Int×Int×Int×Int×Int
def ftD:Ft:=(0,0,0,0,0)
def ftAt(l:List Ft)(k:Nat):Ft:=l.getD k ftD
structure Stp where
 k:Nat→Int
 p:Nat→Int
 z:Nat→Int
 v:Int
 g:Bool
def hits(now ax un:Int)(sf:Bool)(f:Ft):Bool:=decide (f.1≤now)&&(decide (f.2.2.1=ax)&&(decide (f.2.2.2.1=un)&&(decide (f.2.1=4)==sf)))
def ailU(l:List Ft)(now ax un:Int)(sf:Bool):Nat→Option Ft
 |0=>none
 |k+1=>if hits now ax un sf (ftAt l k) then some (ftAt l k) else ailU l now ax un sf k
def ail(l:List Ft)(now ax un:Int)(sf:Bool):Option Ft:=ailU l now ax un sf l.length
def cD(x:Int):Int:=Zal x (-262143) 262143
def cW(x:Int):Int:=Zal x (-262144) 262143
def spo(f:Ft)(r:Rd):Rd:=if f.2.1=1 then(r.1,r.2.1,r.2.2.1,cD f.2.2.2.2) else if f.2.1=2 then(r.1,r.2.1,r.2.2.1,cW (r.2.2.2+cD f.2.2.2.2)) else if f.2.1=3 then(r.1,r.2.1,0,r.2.2.2) else r
def sdL(o:Option Ft)(r:Rd):List Rd:=match o with
 |none=>[r]
 |some f=>if f.2.1=0 then[] else[spo f r]
def chR(l:List Ft)(now ax k lab x:Int):List Rd:=sdL (ail l now ax k false) (lab,k,3,cW x)
def dig(b z:Int):Nat→Int
 |0=>z
 |k+1=>dig b z k/b
def noi(N z:Int)(k:Nat):Int:=dig (2*N+1) z k%(2*N+1)-N
def chU(l:List Ft)(now:Int)(i:Nat)(N x z:Int):Nat→List Rd
 |0=>[]
 |k+1=>chU l now i N x z k++chR l now i k (1+i) (x+noi N z k)
def suU(i:Nat)(at':Nat→Int):Nat→List Rd
 |0=>[]
 |k+1=>suU i at' k++[(16+4*(i:Int)+k,3,3,at' k)]
def axR(C:CR)(l:List Ft)(now:Int)(i:Nat)(x:Int)(at':Nat→Int)(s:Stp):List Rd:=chU l now i (C.a i 2) x (s.z i) 3++suU i at' (C.a i 4).toNat++[(32+(i:Int),3,3,s.k i)]
def spR(l:List Ft)(now v:Int):Nat→List Rd
 |0=>[]
 |k+1=>spR l now v k++chR l now 2 k 8 v
def axU(C:CR)(l:List Ft)(now:Int)(x:Nat→Int)(at':Nat→Nat→Int)(s:Stp):Nat→List Rd
 |0=>[]
 |i+1=>axU C l now x at' s i++axR C l now i (x i) (at' i) s
def saR(C:CR)(l:List Ft)(now:Int)(x:Nat→Int)(at':Nat→Nat→Int)(s:Stp):List Rd:=
 axU C l now x at' s 2++spR l now s.v 3++(if s.g then[(40,3,3,1)] else[])
structure FT where
 S:FS
 sv:Nat→List Sv
 x:Nat→Int
 at':Nat→Nat→Int
def plc(C:CR)(l:List Ft)(now:Int)(i k:Nat)(s:Sv):Int:=if s.2.2 then 0 else match ail l now i k true with
 |some f=>Zal f.2.2.2.2 (-(C.a i 5)) (C.a i 5)
 |none=>s.1
def plU(C:CR)(l:List Ft)(now:Int)(i:Nat)(L:List Sv):Nat→Int
 |0=>0
 |k+1=>plU C l now i L k+plc C l now i k (svAt L k)
def wsF(C:CR)(l:List Ft)(now:Int)(q:FT)(s:Stp):List Rd:=gat rdOf ((saR C l now q.x q.at' s).map pk1)
def stpF(C:CR)(l:List Ft)(now:Int)(q:FT)(s:Stp):FT:=
 ⟨sS3 C q.S (wsF C l now q s) q.sv,vS3 C q.S (wsF C l now q s) q.sv,
  fun i=>q.x i+plU C l now i (vS3 C q.S (wsF C l now q s) q.sv i) (C.a i 4).toNat+s.p i,
  fun i k=>if k<(C.a i 4).toNat then plc C l now i k (svAt (vS3 C q.S (wsF C l now q s) q.sv i) k) else q.at' i k⟩
def zB0:Bk:=⟨fun _=>0,fun _=>false,0⟩
def q0(C:CR):FT:=⟨⟨fun _=>zB0,fun _=>none,fun _=>0,fun _=>0,fun _=>(0,0,0),0⟩,fun i=>List.replicate (C.a i 4).toNat svD,fun _=>0,fun _ _=>0⟩
def stD:Stp:=⟨fun _=>0,fun _=>0,fun _=>0,0,false⟩
def stAt(l:List Stp)(k:Nat):Stp:=l.getD k stD
def flU(C:CR)(l:List Ft)(ss:List Stp):Nat→FT
 |0=>q0 C
 |n+1=>stpF C l n (flU C l ss n) (stAt ss n)
structure Rp where
 x:Nat→Int
 l:Nat→Int
 s:Nat→Int
 n:Int
 a:Nat→Nat→Int
def rpF(q:FT):Rp:=⟨q.x,fun i=>Zdi (q.S.bk i).o 3,fun i=>sndU (q.sv i) (q.sv i).length,q.S.n,q.at'⟩
def rpL(r:Rp):List Value:=[Vi (r.x 0),Vi (r.x 1),Vi (r.l 0),Vi (r.l 1),Vi (r.s 0),Vi (r.s 1),Vi r.n,
 Vi (r.a 0 0),Vi (r.a 0 1),Vi (r.a 0 2),Vi (r.a 0 3),Vi (r.a 1 0),Vi (r.a 1 1),Vi (r.a 1 2),Vi (r.a 1 3)]
def rpU(C:CR)(l:List Ft)(ss:List Stp):Nat→List Rp
 |0=>[]
 |n+1=>rpU C l ss n++[rpF (flU C l ss (n+1))]
def ftL(f:Ft):List Value:=[Vi f.1,Vi f.2.1,Vi f.2.2.1,Vi f.2.2.2.1,Vi f.2.2.2.2]
def Fts(u:World)(a:Option Addr)(l:List Ft):Prop:=l=[]∨∃b off,a=some (Ad b off)∧∀k,k<l.length→u.rangeAt b (off+k*5) (ftL (ftAt l k))
theorem Fts.later{u u':World}{a:Option Addr}{l:List Ft}(h:Fts u a l)(hb:Below u.heap.size u u'):Fts u' a l:=by
 rcases h with h|⟨b,off,h,hc⟩
 · exact .inl h
 · exact .inr ⟨b,off,h,fun k hk j v hj=>cell_later hb (hc k hk j v hj)⟩
theorem Fts.at{u:World}{a:Option Addr}{l:List Ft}(h:Fts u a l){k:Nat}(hk:k<l.length):∃b off,a=some (Ad b off)∧u.rangeAt b (off+k*5) (ftL (ftAt l k)):=by
 rcases h with h|⟨b,off,h,hc⟩
 · subst h;simp at hk
 · exact⟨b,off,h,hc k hk⟩
def nz(f:Nat→Int)(k:Nat):List Value:=[Vi (if 0<k then f 0 else 0),Vi (if 1<k then f 1 else 0),Vi (if 2<k then f 2 else 0)]
end Go.Proofs.YtnfdfiholcelaaaGreatDoor
namespace Go.Proofs.YtnfdfiholcelaaaGreatDoor
open Go.RowKit Tryz
theorem run_append_zero{P:Program}{w:World}{t ty e:TypeId}{i:TypeInfo}(ht:P.underlying t=some (.slice e))(hi:P.info? e=some i){base n size:Nat}{s:Value}{xs:List Value}(h:w.ownsRow base e size s n xs)(p:Option Addr)(c:Nat):
 (Builtin.append_ #[t,t] ty #[s,.slice p 0 c]).run P w=.ok s w:=by
 have hc:Src P i.size t (.slice p 0 c) 0 [] w:=by
  cases p with
  |none=>exact Src.ofNil w ht c
  |some a=>exact Src.ofSlice w ht a 0 c [] (by simp) (by simp) (by simp)
 rcases h.2 with⟨rfl,_⟩|⟨g,cap,cur,rfl,_,_,hn,_⟩
 · simp[Builtin.append_,run_underlying ht,sizeOf,typeInfo,hi,hc.len,hc.cells]
 · exact run_append_room_src w t t ty e i ht hi g 0 n cap _ 0 [] hc (by omega) (by simp) (by simp)
def Lay(u:World)(p:Option Addr)(ys:List Value):Prop:=ys=[]∨∃g off,p=some (Ad g off)∧u.rangeAt g off ys
theorem wpList_ap{P:Program}{ops:Array Oper}{rest:List Oper}{o:Oper}{a:Act}{u:World}{Q:Exit→Act→World→Prop}{s:Value}{xs:List Value}{n base e:Nat}{i:TypeInfo}{z:Value}{size bytes:Nat}{t:TypeId}(sO xO:Operand)
 (ho:o.op=.call { callee:=.builtin .append,args:=#[sO,xO],argTypes:=#[t,t] }) (ht:P.underlying t=some (.slice e)) (hi:P.info? e=some i) (hz:i.zero=some z) (hsize:i.size=size) (hby:i.bytes=bytes)
 {p:Option Addr} {m c:Nat} {ys:List Value} (hx:a.eval xO=.slice p m c) (hown:u.ownsRow base e size s n xs) (hy:Lay u p ys) (hl:ys.length=m*size) (h1:∀v∈ys,v.oneCell'=true)
 (hm:n+m≤maxLen) (hbytes:(n+m)*bytes≤140737488355328) (hbase:base≤u.heap.size)
 (h:∀s' u',u'.ownsRow base e size s' (n+m) (xs++ys)→u.grownBy u' s.ownBlock→wpList P ops Q rest (a.put o.dst s') u')
 (hsz:0<size:=by decide) (hzs:z.cells.size=size:=by rfl) (hgd:o.guard=none:=by rfl) (hs:a.eval sO=s:=by rfl):wpList P ops Q (o::rest) a u:=by
 by_cases h0:m=0
 · subst h0
   have hys:ys=[]:=by simpa using hl
   subst hys;refine wpList_plain hgd fun _ hK=>?_
   unfold Oper.wp execOp
   simp only[ho,resolve,invoke,builtin,Sem.run_bind,Sem.run_pure,Result.andThen_ok,List.map_toArray,List.map_cons,List.map_nil,hs,hx,run_append_zero ht hi hown p c];exact hK _ _ (h s u (by simpa using hown) (World.grownBy.refl _ _))
 · have hm':0<m:=by omega
   rcases hy with hy|⟨g,off,rfl,hr⟩
   · subst hy;have:0<m*size:=Nat.mul_pos hm' hsz
     simp at hl
     omega
   · exact wpList_append_lies u hgd sO xO t ho base e i z size bytes ht hi hz hsize hby hzs hsz s n xs hs hown ⟨g,off,none⟩ m c ys hx hl (fun j v hj=>by rw[Addr.add_lit];exact hr j v hj) h1 hm' hm hbytes hbase _ rfl
      (fun g' cap w' h2 h3 _ _=>h _ _ h2 h3)
end Go.Proofs.YtnfdfiholcelaaaGreatDoor
namespace Go.Proofs.YtnfdfiholcelaaaGreatDoor
open Go.RowKit Plain Tryz
def ROw(v0 u:World)(s:Value)(rs:List Rd):Prop:=u.ownsRow v0.heap.size 161 4 s rs.length (encL rs)∧Below v0.heap.size v0 u
theorem ROw.later{v0 u u':World}{s:Value}{rs:List Rd}(h:ROw v0 u s rs)(hb:Below u.heap.size u u'):ROw v0 u' s rs:=⟨Zaz h.1 hb,Zac h.2 hb⟩
theorem ROw.nil(v0:World):ROw v0 v0 (.slice none 0 0) []:=⟨World.ownsRow_nil _ _ _ _,Below.refl _ _⟩
def stpL(s:Stp):List Value:=[Vi (s.k 0),Vi (s.k 1),Vi (s.p 0),Vi (s.p 1),Vi (s.z 0),Vi (s.z 1),Vi s.v,.bool s.g]
section
variable (C : CR) (pf : Option Addr) (nf cf : Nat) (S : FS) (now : Int) (x : Nat → Int) (at' : Nat → Nat → Int) (s : Stp)
end
def Oth(w0 u:World)(B:Nat):Prop:=w0.heap.size≤u.heap.size∧u.os=w0.os∧u.tape=w0.tape∧u.output=w0.output∧∀b,b<w0.heap.size→b≠B→u.heap[b]?=w0.heap[b]?
theorem Oth.refl(w:World)(B:Nat):Oth w w B:=⟨Nat.le_refl _,rfl,rfl,rfl,fun _ _ _=>rfl⟩
theorem Oth.later{w0 u u':World}{B:Nat}(h:Oth w0 u B)(hb:Below u.heap.size u u'):Oth w0 u' B:=⟨Nat.le_trans h.1 hb.size,hb.os.trans h.2.1,hb.tape.trans h.2.2.1,hb.output.trans h.2.2.2.1,fun b h1 h2=>(hb.block b (Nat.lt_of_lt_of_le h1 h.1)).trans (h.2.2.2.2 b h1 h2)⟩
theorem Oth.set{w0 u:World}{B j:Nat}{v:Value}(h:Oth w0 u B):Oth w0 (u.setCell (Ad B j) v) B:=
 have hb:=(Below.refl 0 u).setCell (p:=⟨B,j,none⟩) (Nat.zero_le _) v
 ⟨Nat.le_trans h.1 hb.size,hb.os.trans h.2.1,hb.tape.trans h.2.2.1,hb.output.trans h.2.2.2.1,fun b h1 h2=>(heap_setCell_other u ⟨B,j,none⟩ b v h2).trans (h.2.2.2.2 b h1 h2)⟩
theorem Oth.cell{w0 u:World}{B b j:Nat}{v:Value}(h:Oth w0 u B)(hb:b≠B)(hc:w0.cell? (Ad b j)=some v):u.cell? (Ad b j)=some v:=by
 have hl:=World.block_lt_of_cell? w0 _ hc;have:=h.2.2.2.2 b hl hb
 unfold World.cell? at hc⊢
 simp only[this];exact hc
theorem Oth.rds{w0 u:World}{B:Nat}{a:Option Addr}{l:List Rd}(h:Oth w0 u B)(hn:∀g,a=some (Ad g 0)→g≠B)(hr:Rds w0 a l):Rds u a l:=by
 rcases hr with hr|⟨g,e,hc⟩
 · exact .inl hr
 · exact .inr ⟨g,e,fun k hk=>⟨h.cell (hn g e) (hc k hk).1,h.cell (hn g e) (hc k hk).2.1,h.cell (hn g e) (hc k hk).2.2.1,h.cell (hn g e) (hc k hk).2.2.2⟩⟩
section
variable (C : CR) (pf : Option Addr) (nf cf : Nat) (S : FS) (now : Int) (x : Nat → Int) (at' : Nat → Nat → Int)
end
def fz(f:Nat→Int)(i:Nat):Nat→Int:=fun j=>if j<i then f j else 0
end Go.Proofs.YtnfdfiholcelaaaGreatDoor
