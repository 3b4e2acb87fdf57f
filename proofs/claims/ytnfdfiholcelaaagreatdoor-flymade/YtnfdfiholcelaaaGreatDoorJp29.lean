import Derived.Laws.IdiomCopy
import Derived.Tactics
import Derived.Test.YtnfdfiholcelaaaGreatDoorJp28
set_option maxRecDepth 100000
set_option maxHeartbeats 20000000
namespace Go.Proofs.YtnfdfiholcelaaaGreatDoor
open Go.RowKit Plain Tryz
variable {B K V cap g i k:Nat}{C:CR}{L:List Sv}{P:Program}{Q:Exit→Act→World→Prop}{R T b c m n x:Int}{S S':FS}{a:Option Addr}{l:List Rd}{op:Oper}{ops:Array Oper}{rest:List Oper}{s:Nat→Int}{sv sv':Nat→List Sv}{t:Nat→Bool}{u u' w wz:World}{zs:List Int}
def U32s(w:World)(a:Option Addr)(zs:List Int):Prop:=zs=[]∨∃g,a=some (Ad g 0)∧∀k,k<zs.length→Kc w g k (.int .u32 (zs.getD k 0))
theorem U32s.later{w':World}(h:U32s w a zs)(hb:Bw w w'):U32s w' a zs:=by
 rcases h with h|⟨g,h,hc⟩
 · exact .inl h
 · exact .inr ⟨g,h,fun k hk=>cell_later hb (hc k hk)⟩
theorem infoU32:(prog.info? 136).map (fun i=>(i.zero,i.size,i.bytes))=some (some (.int .u32 0),1,4):=by kernel_rfl
def pk1(r:Rd):Int:=Zz r.1 r.2.1 r.2.2.1 r.2.2.2
def pkU(l:List Rd):Nat→List Int
 |0=>[]
 |k+1=>pkU l k++[pk1 (rat l k)]
theorem pkU_len(l:List Rd):∀k,(pkU l k).length=k
 |0=>rfl
 |k+1=>by rw[pkU,List.length_append,pkU_len l k];rfl
def Yc(r:Rd):Bool:=mayR r.1 r.2.1 r.2.2.1 r.2.2.2
theorem u32_of_row{n:Nat}{e:TypeId}(hn:n=zs.length)(h:w.ownsRow B e 1 (.slice (some (Ad g 0)) n cap) n (zs.map (Value.int .u32))):U32s w (some (Ad g 0)) zs:=by
 subst hn;refine .inr ⟨g,rfl,fun k hk=>?_⟩
 show World.cell? _ _=_
 rw[h.cellAt k (by omega),List.getElem?_map,List.getD_eq_getElem?_getD,List.getElem?_eq_getElem hk]
 rfl
theorem packAll_ok(a:Option Addr)(cap:Nat)(l:List Rd)(h1:1≤l.length)(hl:l.length≤1000)(hm:∀k,k<l.length→Yc (rat l k)=true)(w:World)(hr:Rds w a l):
 Calls prog 113 #[.slice a l.length cap] w fun e w'=>(∃g c,e=.returned (.tuple #[.slice (some (Ad g 0)) l.length c,.nilIface])∧w.heap.size≤g∧U32s w' (some (Ad g 0)) (pkU l l.length))∧Bw w w':=by
 obtain⟨i0,hi4,hz0,hz1,hz2⟩:=info_parts infoU32;have HR:=Za hr;have HM:=Za hm;clear hr hm
 go_enter func113,ntmps113
 go_upto_region 3 with fail
 go_loopw [4,11] (fun s0 ix wr=>∃k:Nat,k≤l.length∧ix=Vi k∧wr.ownsRow w.heap.size 136 1 s0 k ((pkU l k).map (Value.int .u32))∧Bw w wr) (fun _ ix _=>l.length-(intOf ix).toNat)
 case atStart=>exact⟨0,by omega,rfl,World.ownsRow_nil _ _ _ _,Below.refl _ _⟩
 case round=>
  obtain⟨k,hk,rfl,hown,hbw⟩:=hrel
  by_cases hlt:k<l.length
  · obtain⟨g,rfl,c0,c1,c2,c3⟩:=(HR.out.later hbw).at hlt;have hpk:=pack_yes (rat l k).1 (rat l k).2.1 (rat l k).2.2.1 (rat l k).2.2.2 (HM.out k hlt);have Hb:Hid (Zz (rat l k).1 (rat l k).2.1 (rat l k).2.2.1 (rat l k).2.2.2=pk1 (rat l k)):=Za rfl;rw[Hb.out] at hpk;generalize hz:pk1 (rat l k)=z at *;generalize (rat l k).1=r0 at *;generalize (rat l k).2.1=r1 at *;generalize (rat l k).2.2.1=r2 at *;generalize (rat l k).2.2.2=r3 at*
    have k0:(0:Int)≤(k:Int):=by omega
    have k1:(k:Int)<(l.length:Int):=by omega
    have Ha:=Za hown;have HB:=Za hbw;clear hown hbw Hb
    go_wp2_with (first
     |(go_at_call 84;refine Sb (hpk _) fun u1 hb=>?_;have HB:=Za (Zc (Zc HB.out (Zb _ _)) hb);have Ha:=Za (Y3 (Ha.out.alloc _) hb);clear hb)
     |(at_builtin;refine wpList_append_lies _ rfl _ _ 42 rfl w.heap.size 136 i0 (.int .u32 0) 1 4 underlying42 hi4 hz0 hz1 hz2 rfl (by decide) _ _ _ rfl (Ha.out.alloc _) ⟨u1.heap.size,0,none⟩ 1 1 [.int .u32 z] rfl rfl (f1new u1 _ _) (fun x hx=>by simp at hx;subst hx;rfl) (by omega) (by unfold maxLen;omega) (by omega) (Zc HB.out (Zb _ _)).size _ rfl ?_;intro g9 c9 v9 hown hgrow hat hlt9;have HE:=Za hown;have Hc:=Za ((Zc HB.out (Zb _ _)).grown hgrow (Zc HB.out (Zb _ _)).size (fun q hq=>(Ha.out.lt q hq).1));clear hown hgrow hat hlt9))
    go_roundw
    case rel=>exact⟨k+1,by omega,by go_num,by rw[pkU,List.map_append,hz];exact HE.out,Hc.out⟩
    case measure=>simp[intOf];omega
  · obtain rfl:k=l.length:=by omega
    obtain⟨g,c,hv,hg0,hg1⟩:=hown.form (by omega);subst hv;have HW:=Za (u32_of_row (pkU_len l _).symm hown);clear hown;go_wp2_with fail;go_ret2;exact⟨⟨g,c,rfl,hg0,HW.out⟩,hbw⟩
theorem tell_ok{G:Nat→Nat}(hf:FR K wz w B S C a cap l sv G)(hl:∀i,i<2→(sv i).length≤9)(hm:∀k,k<(rdA sv S.n).length→Yc (rat (rdA sv S.n) k)=true):
 Calls prog 62 #[.pointer (some (Ad B 0))] w fun e w'=>(∃g c,e=.returned (.tuple #[.slice (some (Ad g 0)) (rdA sv S.n).length c,.nilIface])∧w.heap.size≤g∧U32s w' (some (Ad g 0)) (pkU (rdA sv S.n) (rdA sv S.n).length))∧Bw w w':=by
 have hrd:=readings_ok hf hl
 have h1:1≤(rdA sv S.n).length:=by simp[rdA]
 have h2:(rdA sv S.n).length≤1000:=by have:=rdX_len sv hl 2 (by omega);simp[rdA];omega
 have hpa:=fun g c u h=>packAll_ok (some (Ad g 0)) c (rdA sv S.n) h1 h2 hm u h;clear hf
 go_enter func62,ntmps62
 go_wp2_with (first
  |(go_at_call 114;refine hrd.mono ?_;rintro e u ⟨⟨g,c,rfl,hr⟩,hb⟩;have HR:=Za hr;have HB:=Za hb;clear hr hb)
  |(go_at_call 113;refine(hpa _ _ _ HR.out).mono ?_;rintro e v ⟨⟨x,d,rfl,hx,hw⟩,hb⟩;have HW:=Za hw;have HX:=Za (Nat.le_trans HB.out.size hx);have Ha:=Za (Zc HB.out hb);clear hx hw hb))
 go_ret2;exact⟨⟨_,_,rfl,HX.out,HW.out⟩,Ha.out⟩
theorem run_copy_wide(w:World)(dT sT ty elem:TypeId)(b o n dCap:Nat)(a:Addr)(sCap sz:Nat)(cs:List Value)(hu:P.underlying dT=some (.slice elem))(hs:(P.info? elem).map (·.size)=some sz)(hn:cs.length=n*sz)(hsrc:∀j v,cs[j]?=some v→w.cell? (a.add j)=some v)(hc:∀j,j<cs.length→(w.cell? (Ad b (o+j))).isSome=true)(hf:∀j,j<cs.length→w.frozen? (Ad b (o+j))=false)(h1:∀v∈cs,v.oneCell'=true):
 (Builtin.copy_ #[dT,sT] ty #[.slice (some (Ad b o)) n dCap,.slice (some a) n sCap]).run P w=.ok (goInt n) (w.setCells b o cs):=by
 have hl:=run_loadCells_list (P:=P) w a cs hsrc;have hst:=run_storeCells_cells (P:=P) b o cs 0 w (by simpa using hc) (by simpa using hf) h1
 cases hq:P.info? elem with
 |none=>simp[hq] at hs
 |some i=>
  have hi:i.size=sz:=by simpa[hq] using hs
  simp[Builtin.copy_,run_underlying hu,Builtin.lenOf,Builtin.firstCells,sizeOf,typeInfo,hq,hi,←hn,hl,hst]
theorem Zgl{o:Oper}{a:Act}(hgd:o.guard=none)(d s:Operand)(dT sT:TypeId)(ho:o.op=.call { callee:=.builtin .copy,args:=#[d,s],argTypes:=#[dT,sT] })(elem:TypeId)(hu:P.underlying dT=some (.slice elem))(sz:Nat)(hsz:(P.info? elem).map (·.size)=some sz)(g off n dCap:Nat)(ad:Addr)(sCap:Nat)(hd:a.eval d=.slice (some (Ad g off)) n dCap)(hs:a.eval s=.slice (some ad) n sCap)(cs:List Value)(hn:cs.length=n*sz)(hsrc:∀j v,cs[j]?=some v→w.cell? (ad.add j)=some v)(ht:w.there g off cs.length)(h1:∀v∈cs,v.oneCell'=true)(h:wpList P ops Q rest (a.put o.dst (goInt n)) (w.setCells g off cs)):wpList P ops Q (o::rest) a w:=by
 refine wpList_plain hgd fun K hK=>?_;have hrun:=run_copy_wide (P:=P) w dT sT o.type elem g off n dCap ad sCap sz cs hu hsz hn hsrc (fun j hj=>(ht j hj).1) (fun j hj=>(ht j hj).2) h1
 unfold Oper.wp
 simp[execOp,ho,resolve,invoke,builtin,hd,hs,hrun,Result.andThen]
 exact hK _ _ h
theorem Nz(L:List Sv){r:Nat}(hk:k<L.length)(hr:r<3):(svL L)[k*3+r]?=[Vi (svAt L k).1,Vi (svAt L k).2.1,.bool (svAt L k).2.2][r]?:=by
 rw[←svL_at L k hk,List.getElem?_take,if_pos hr,List.getElem?_drop]
theorem vls_src{ad:Addr}(h1:1≤L.length)(h:VLs u (some ad) L):∀j v,(svL L)[j]?=some v→u.cell? (ad.add j)=some v:=by
 intro j v hj
 rcases h with h|⟨b,off,h,hc⟩
 · subst h;simp at h1
 · simp only[Option.some.injEq] at h;subst h
   have hlt:j<L.length*3:=by
    have:=(List.getElem?_eq_some_iff.1 hj).1
    rwa[Wg] at this
   have hk:j/3<L.length:=by omega
   have hr:j%3<3:=by omega
   have e:j=j/3*3+j%3:=by omega
   rw[e,Nz L hk hr] at hj;have c:=hc (j/3) hk;rw[Addr.add_lit]
   rcases(show j%3=0∨j%3=1∨j%3=2 by omega) with h3|h3|h3
   · rw[h3] at hj
     have:v=Vi (svAt L (j/3)).1:=by simpa using hj.symm
     rw[this,show off+j=off+j/3*3 by omega];exact c.1
   · rw[h3] at hj
     have:v=Vi (svAt L (j/3)).2.1:=by simpa using hj.symm
     rw[this,show off+j=off+j/3*3+1 by omega];exact c.2.1
   · rw[h3] at hj
     have:v=.bool (svAt L (j/3)).2.2:=by simpa using hj.symm
     rw[this,show off+j=off+j/3*3+2 by omega];exact c.2.2
theorem svL_one:∀(L:List Sv),∀v∈svL L,v.oneCell'=true
 |[],_,h=>by cases h
 |s::r,v,h=>by
  simp only[svL,List.mem_cons] at h
  rcases h with rfl|rfl|rfl|h
  · rfl
  · rfl
  · rfl
  · exact svL_one r v h
theorem U8:∀(vs cs:List Value),cs.length=vs.length→putL cs 0 vs=vs:=by
 have key:∀(vs pre cs:List Value),cs.length=vs.length→putL (pre++cs) pre.length vs=pre++vs:=by
  intro vs
  induction vs with
  |nil=>intro pre cs h;have:cs=[]:=List.eq_nil_of_length_eq_zero (by simpa using h);subst this;rfl
  |cons v r ih=>
   intro pre cs h
   cases cs with
   |nil=>simp at h
   |cons c cs=>
    show putL ((pre++c::cs).set pre.length v) (pre.length+1) r=pre++v::r
    have e:(pre++c::cs).set pre.length v=(pre++[v])++cs:=by simp
    rw[e];have:=ih (pre++[v]) cs (by simpa using h)
    simpa using this
 intro vs cs h
 simpa using key vs [] cs h
theorem blk_arr(w:World)(t:TypeId)(x:Array Value):Blk t (w.alloc (.cells x t)) w.heap.size x.toList:=by
 have:=Blk.new w t x.toList
 rwa[Array.toArray_toList] at this
theorem st_servos(S:FS):((stL S).drop 21).take 2=spL S:=rfl
theorem Yd(h:stE C S sv=0):crE C=0∧∀k,k<8→eSt C S sv k=0:=by
 unfold stE at h
 split at h
 · rename_i h0
   split at h
   · rename_i h1;exact⟨h0,fstN_all h1⟩
   · cases h
 · rename_i h0;exact absurd h h0
theorem Xe(h:stE C S sv=0)(hi:i<2):((sv i).length:Int)=C.a i 4∧seU C i (sv i) (sv i).length=0:=by
 have:csE C i (sv i)=0:=by
  rcases Qtw i with rfl|rfl
  · exact(Yd h).2 4 (by omega)
  · exact(Yd h).2 6 (by omega)
 unfold csE at this
 split at this
 · rename_i e;exact⟨e,this⟩
 · cases this
theorem seU_all:∀n,seU C i L n=0→∀k,k<n→svE (C.a i 5) (C.a i 6) (C.a i 7) (C.a i 10) (svAt L k).1 (svAt L k).2.1 (svAt L k).2.2=0
 |0,_,k,hk=>by omega
 |n+1,h,k,hk=>by
  rw[seU] at h
  split at h
  · rename_i h0
    by_cases e:k=n
    · subst e;exact h
    · exact seU_all n h0 k (by omega)
  · rename_i h0;exact absurd h h0
theorem stE_sv(h:stE C S sv=0)(hi:i<2):2≤(sv i).length∧(sv i).length≤4:=by
 have a:=(Xe h hi).1;have b:=Ua (show rgE (C.a i 4) (C.a i 3)=0 from Xq (Yd h).1 hi (k:=0) (by omega))
 omega
theorem rds_lt(h:Rds u a l):∀g,a=some (Ad g 0)→l≠[]→g<u.heap.size:=by
 intro g e hl
 rcases h with h|⟨b,rfl,hc⟩
 · exact absurd h hl
 · simp only[Option.some.injEq,Addr.mk.injEq] at e;obtain⟨rfl,_⟩:=e;exact World.block_lt_of_cell? u ⟨b,_,none⟩ (hc 0 (List.length_pos_iff.2 hl)).1
theorem isCopy{a:Act}(d s:Operand)(dT sT:TypeId)(_ho:op.op=.call { callee:=.builtin .copy,args:=#[d,s],argTypes:=#[dT,sT] })(h:wpList P ops Q (op::rest) a w):wpList P ops Q (op::rest) a w:=h
theorem svidx0(S:FS)(w:World):(Instr.index 36 (.agg (spL S).toArray) (Vi 0)).run prog w=.ok (.slice (S.sp 0) (S.sn 0) (S.sc 0)) w:=by kernel_rfl
theorem svidx1(S:FS)(w:World):(Instr.index 36 (.agg (spL S).toArray) (Vi 1)).run prog w=.ok (.slice (S.sp 1) (S.sn 1) (S.sc 1)) w:=by kernel_rfl
theorem vls_some(h1:1≤L.length)(h:VLs u a L):∃p,a=some p:=by
 rcases h with h|⟨b,off,h,_⟩
 · subst h;simp at h1
 · exact⟨_,h⟩
theorem made_len(n:Nat):(madeCells #[Vi 0,Vi 0,.bool false] (n*3)).toList.length=n*3:=by simp[madeCells]
theorem buildFr2(S:FS)(C:CR)(p:Option Addr)(n c:Nat)(w:World):(Instr.build 146 #[(0,.agg (stL S).toArray),(1,.agg (crL C).toArray),(2,.slice p n c)]).run prog w=.ok (.agg (frL S C (.slice p n c)).toArray) w:=by kernel_rfl
theorem wpList_buildFr{a:Act}(S:FS)(C:CR)(p:Option Addr)(n c:Nat)(x y z:Operand)(hgd:op.guard=none)(ho:op.op=.build 146 #[(0,x),(1,y),(2,z)])(hx:a.eval x=.agg (stL S).toArray)(hy:a.eval y=.agg (crL C).toArray)(hz:a.eval z=.slice p n c)(h:wpList prog ops Q rest (a.put op.dst (.agg (frL S C (.slice p n c)).toArray)) w):wpList prog ops Q (op::rest) a w:=
 wpList_plain hgd fun _ hK=>by
  unfold Oper.wp execOp
  simp only[ho,List.map_toArray,List.map_cons,List.map_nil,hx,hy,hz,Sem.run_bind,buildFr2,Result.andThen_ok];exact hK _ _ h
theorem newFrame_ok(C:CR)(S:FS)(sv:Nat→List Sv)(ws:List Int)(aw:Option Addr)(cw:Nat)(w:World)(hg:GV w)(hl:CrL w C)(hv:SvL w S sv)(hw:Wds w aw ws)(h64:ws.length≤64)(hmany:(gat rdOf ws).length≤1000)(h0:stE C S sv=0):
 Calls prog 56 #[.agg (crL C).toArray,.agg (stL S).toArray,.slice aw ws.length cw] w fun e w'=>∃B S' a cap G,e=.returned (.tuple #[.pointer (some (Ad B 0)),.nilIface])∧(S'.bk=S.bk∧S'.hd=S.hd∧S'.n=S.n)∧FR w.heap.size w w' B S' C a cap (gat rdOf ws) sv G:=by
 have hck:=fun u (h:Bw w u)=>checkState_any C S sv u (hg.later h) (hl.later h) (hv.later h);simp only[h0,Z2] at hck;have hga:=fun u (h:Bw w u)=>gather_any aw cw ws h64 u (hw.later h);have HS:Hid (Blk 41 ((w.alloc (.cells (crL C).toArray 29)).alloc (.cells (stL S).toArray 41)) (w.heap.size+1) (stL S)):=Za (by have:=Blk.new (w.alloc (.cells (crL C).toArray 29)) 41 (stL S);rw[World.size_alloc] at this;exact this);have HC:=Za ((Blk.new w 29 (crL C)).later (Zb _ (.cells (stL S).toArray 41)));have HB:=Za (Zc (Zb w (.cells (crL C).toArray 29)) (Zb _ (.cells (stL S).toArray 41)));have Hm:Hid (World.rangeAt ((w.alloc (.cells (crL C).toArray 29)).alloc (.cells (stL S).toArray 41)) w.heap.size 0 (crL C)):=Za HC.out.range;have Hn:Hid (World.rangeAt ((w.alloc (.cells (crL C).toArray 29)).alloc (.cells (stL S).toArray 41)) (w.heap.size+1) 0 (stL S)):=Za HS.out.range;have Hf:=Za hv;have HN:=Za (fun i hi=>stE_sv h0 (i:=i) hi);clear hg hl hv hw h64 h0;generalize hgl:gat rdOf ws=l at*
 go_enter func56,ntmps56
 go_upto_region 7 with(first
  |(refine Lm 29 (.tmp 3) rfl w.heap.size 0 (crL C) Hm.out underlying29 Zt ?_)
  |(refine Lm 41 (.tmp 4) rfl (w.heap.size+1) 0 (stL S) Hn.out underlying41 Yk ?_)
  |(go_at_call 18;refine Sb (hck _ HB.out) fun w1 hb=>?_;have HB:=Za (Zc HB.out hb);have HC:=Za (HC.out.later hb);have HS:=Za (HS.out.later hb);clear hb)
  |(go_at_call 100;refine(hga _ HB.out).mono ?_;rintro e w2 ⟨⟨v,rfl,ho⟩,hb⟩;obtain⟨a,cap,rfl,hrd⟩:=ho.rds;have Hb:=Za hrd;have HB:=Za (Zc HB.out hb);have HC:=Za (HC.out.later hb);have HS:=Za (HS.out.later hb);clear hb ho hrd))
 have Hm:=Za HC.out.range;have Hn:=Za HS.out.range
 go_upto_region 8 with(first
  |(refine Lm 29 (.tmp 3) rfl w.heap.size 0 (crL C) Hm.out underlying29 Zt ?_)
  |(refine Lm 41 (.tmp 4) rfl (w.heap.size+1) 0 (stL S) Hn.out underlying41 Yk ?_)
  |(refine wpList_buildFr S C a l.length cap (.tmp 30) (.tmp 31) (.tmp 32) rfl rfl rfl rfl rfl ?_))
 have Hj:=Za (rds_lt Hb.out);have Ha:Hid (Blk 146 (w2.alloc (.cells (frL S C (.slice a l.length cap)).toArray 146)) w2.heap.size (frL S C (.slice a l.length cap))):=Za (Blk.new w2 _ _);have Hb:=Za (Hb.out.later (Zb w2 (.cells (frL S C (.slice a l.length cap)).toArray 146)));have HS:=Za (HS.out.later (Zb w2 (.cells (frL S C (.slice a l.length cap)).toArray 146)));have hBw:=HB.out.size;have HB:=Za (Zc HB.out (Zb w2 (.cells (frL S C (.slice a l.length cap)).toArray 146)));clear HC Hm Hn;generalize w2.alloc (.cells (frL S C (.slice a l.length cap)).toArray 146)=v0 at *;generalize w2.heap.size=B at *;have Ho:=Za (HS.out.sub 21 2);rw[st_servos] at Ho;have hx0:=svidx0 S;have hx1:=svidx1 S;rw[(Hf.out 0 (by omega)).1] at hx0;rw[(Hf.out 1 (by omega)).1] at hx1;have hm0:=Ur (sv 0).length (Hf.out 0 (by omega)).2.1;have hm1:=Ur (sv 1).length (Hf.out 1 (by omega)).2.1;obtain⟨p0,hp0⟩:=vls_some (by have:=(HN.out 0 (by omega)).1;omega) (Hf.out 0 (by omega)).2.2;obtain⟨p1,hp1⟩:=vls_some (by have:=(HN.out 1 (by omega)).1;omega) (Hf.out 1 (by omega)).2.2;have Hq:=Za (Hf.out 0 (by omega)).2.2;have Hr:=Za (Hf.out 1 (by omega)).2.2;rw[hp0] at hx0 Hq;rw[hp1] at hx1 Hr;have hl0:1≤(sv 0).length∧(sv 0).length≤9:=⟨by have:=(HN.out 0 (by omega)).1;omega,(Hf.out 0 (by omega)).2.1⟩;have hl1:1≤(sv 1).length∧(sv 1).length≤9:=⟨by have:=(HN.out 1 (by omega)).1;omega,(Hf.out 1 (by omega)).2.1⟩;clear Hf HN hp0 hp1;generalize hn0:(sv 0).length=n0 at *;generalize hn1:(sv 1).length=n1 at*
 go_upto_region 9 with(refine Lm 36 (.tmp 35) rfl (w.heap.size+1) 21 (spL S) Ho.out underlying36 infoVs2 ?_);clear Ho HS;refine wp_loop_rounds 3 ?_;rw[rounds_succ]
 go_upto_region 11 with fail;have Ha:=Za (Ha.out.later (Below.refl _ v0).drew);have Hb:=Za (Hb.out.later (Below.refl _ v0).drew);have Hk:Hid (Bw w v0.drew):=Za (Zc HB.out (Below.refl _ _).drew);clear HB;refine wp_region_held_drew (S:=fun u=>(Bw w u)) (by kernel_rfl) (Hk.out) (fun _=>?_);have Hd:Hid ((Bw w v0.drew)):=Za (Hk.out);generalize v0.drew=u0 at Hd Ha Hb⊢;refine Tq 0 Hd.out ?_;simp only[Act.put,Ly];refine Tq 1 Hd.out ?_;simp only[Act.put,Ly];refine Tq 2 Hd.out ?_;simp only[Act.put,Ly];refine Tq 3 Hd.out ?_;simp only[Act.put,Ly];refine Tq 5 Hd.out ?_;simp only[Act.put,Ly];refine Tq 6 Hd.out ?_;simp only[Act.put,Ly];refine Tq 7 Hd.out ?_;simp only[Act.put,Ly];refine Ra 4 (fun K hK=>?_);go_simp;have Hl:=Ha;have Hg:=Za (Zc Hd.out (Zb u0 (.cells (madeCells #[Vi 0,Vi 0,.bool false] (n0*3)) 116)));have Ha:=Za (Ha.out.later (Zb u0 (.cells (madeCells #[Vi 0,Vi 0,.bool false] (n0*3)) 116)));have Hb:=Za (Hb.out.later (Zb u0 (.cells (madeCells #[Vi 0,Vi 0,.bool false] (n0*3)) 116)));have Hc:=Za (blk_arr u0 116 (madeCells #[Vi 0,Vi 0,.bool false] (n0*3)));have hlt:=Hl.out.lt;generalize u0.alloc (.cells (madeCells #[Vi 0,Vi 0,.bool false] (n0*3)) 116)=u1 at Hg Ha Hb Hc⊢;generalize u0.heap.size=G0 at Hc hlt⊢;refine hK.out _ _ Hg.out (fun _=>?_);clear hK K;refine Tq 8 Hg.out ?_;simp only[Act.put,Ly];refine Ra 9 (fun K hK=>?_);have f0:=(Ha.out.cell (j:=21) rfl).1;have f1:=(Ha.out.cell (j:=21) rfl).2;go_simp;clear f0 f1;have Hi:=Za (Zr [(.slice (some (Ad G0 0)) n0 n0)] 21 u1 Hg.out hBw)
 have Ha:Hid (Blk 146 (u1.setCells B 21 [(.slice (some (Ad G0 0)) n0 n0)]) B (frL ({ S with sp:=upd S.sp 0 (some (Ad G0 0)),sn:=upd S.sn 0 n0,sc:=upd S.sc 0 n0 }:FS) C (.slice a l.length cap))):=by
  have h:=Blk.setCells [(.slice (some (Ad G0 0)) n0 n0)] 21 u1 _ Ha.out;exact Za h
 have Hb:=Za (Xn (V:=B) (fun g e h=>by have:=Hj.out g e h;omega) [(.slice (some (Ad G0 0)) n0 n0)] 21 u1 Hb.out);have Hc:=Za (Blk.farCells (show G0≠B by omega) [(.slice (some (Ad G0 0)) n0 n0)] 21 u1 Hc.out);have e9:u1.setCell (Ad B 21) (.slice (some (Ad G0 0)) n0 n0)=u1.setCells B 21 [(.slice (some (Ad G0 0)) n0 n0)]:=rfl;rw[e9];clear e9;generalize u1.setCells B 21 [(.slice (some (Ad G0 0)) n0 n0)]=u2 at Hi Ha Hb Hc⊢;refine hK.out _ _ Hi.out (fun _=>?_);clear hK K;clear Hg;refine Dn ?_;go_simp;have HB:=Hi;clear Hi;generalize u2=x0 at HB Ha Hb Hc⊢;clear Hk;refine Ek ?_;have f0:x0.cell? (Ad B 21)=some (.slice (some (Ad G0 0)) n0 n0):=(Ha.out.cell (j:=21) rfl).1
 go_wp2_with (refine isCopy _ _ _ _ rfl ?_;refine Zgl rfl (.tmp 56) (.tmp 57) 35 35 rfl 116 underlying35 3 Xz G0 0 n0 n0 p0 (S.sc 0) rfl rfl (svL (sv 0)) (by rw[Wg,hn0]) (vls_src (by omega) (Hq.out.later HB.out)) (Hc.out.there (by rw[Wg,hn0,made_len];omega)) (svL_one _) ?_);clear f0
 have Hc:Hid (Blk 116 (World.setCells x0 G0 0 (svL (sv 0))) G0 (svL (sv 0))):=by
  have h:=Blk.setCells (svL (sv 0)) 0 x0 _ Hc.out;rw[U8 _ _ (by rw[Wg,hn0,made_len])] at h;exact Za h
 have Ha:=Za (Blk.farCells (show B≠G0 by omega) (svL (sv 0)) 0 x0 Ha.out);have Hb:=Za (Xn (V:=G0) (fun g e h=>by have:=Hj.out g e h;omega) (svL (sv 0)) 0 x0 Hb.out);have HB:=Za (Zr (svL (sv 0)) 0 x0 HB.out (show w.heap.size≤G0 by omega))
 have hBG0:B<G0:=by omega
 clear hlt;generalize World.setCells x0 G0 0 (svL (sv 0))=v1 at *;rw[rounds_succ]
 go_upto_region 11 with fail;have Ha:=Za (Ha.out.later (Below.refl _ v1).drew);have Hb:=Za (Hb.out.later (Below.refl _ v1).drew);have Hc:=Za (Hc.out.later (Below.refl _ v1).drew);have Hk:Hid (Bw w v1.drew):=Za (Zc HB.out (Below.refl _ _).drew);clear HB;refine wp_region_held_drew (S:=fun u=>(Bw w u)) (by kernel_rfl) (Hk.out) (fun _=>?_);have Hd:Hid ((Bw w v1.drew)):=Za (Hk.out);generalize v1.drew=u0 at Hd Ha Hb Hc⊢;refine Tq 0 Hd.out ?_;simp only[Act.put,Ly];refine Tq 1 Hd.out ?_;simp only[Act.put,Ly];refine Tq 2 Hd.out ?_;simp only[Act.put,Ly];refine Tq 3 Hd.out ?_;simp only[Act.put,Ly];refine Tq 5 Hd.out ?_;simp only[Act.put,Ly];refine Tq 6 Hd.out ?_;simp only[Act.put,Ly];refine Tq 7 Hd.out ?_;simp only[Act.put,Ly];refine Ra 4 (fun K hK=>?_);go_simp;have Hp:=Hc;have Hl:=Ha;have Hg:=Za (Zc Hd.out (Zb u0 (.cells (madeCells #[Vi 0,Vi 0,.bool false] (n1*3)) 116)));have Ha:=Za (Ha.out.later (Zb u0 (.cells (madeCells #[Vi 0,Vi 0,.bool false] (n1*3)) 116)));have Hb:=Za (Hb.out.later (Zb u0 (.cells (madeCells #[Vi 0,Vi 0,.bool false] (n1*3)) 116)));have Hc:=Za (Hc.out.later (Zb u0 (.cells (madeCells #[Vi 0,Vi 0,.bool false] (n1*3)) 116)));have Hh:=Za (blk_arr u0 116 (madeCells #[Vi 0,Vi 0,.bool false] (n1*3)));have hlt:=Hl.out.lt;have hG01:=Hp.out.lt;generalize u0.alloc (.cells (madeCells #[Vi 0,Vi 0,.bool false] (n1*3)) 116)=u1 at Hg Ha Hb Hc Hh⊢;generalize u0.heap.size=G1 at Hh hlt hG01⊢;refine hK.out _ _ Hg.out (fun _=>?_);clear hK K;refine Tq 8 Hg.out ?_;simp only[Act.put,Ly];refine Ra 9 (fun K hK=>?_);have f0:=(Ha.out.cell (j:=22) rfl).1;have f1:=(Ha.out.cell (j:=22) rfl).2;go_simp;clear f0 f1;have Hi:=Za (Zr [(.slice (some (Ad G1 0)) n1 n1)] 22 u1 Hg.out hBw)
 have Ha:Hid (Blk 146 (u1.setCells B 22 [(.slice (some (Ad G1 0)) n1 n1)]) B (frL ({ S with sp:=upd (upd S.sp 0 (some (Ad G0 0))) 1 (some (Ad G1 0)),sn:=upd (upd S.sn 0 n0) 1 n1,sc:=upd (upd S.sc 0 n0) 1 n1 }:FS) C (.slice a l.length cap))):=by
  have h:=Blk.setCells [(.slice (some (Ad G1 0)) n1 n1)] 22 u1 _ Ha.out;exact Za h
 have Hb:=Za (Xn (V:=B) (fun g e h=>by have:=Hj.out g e h;omega) [(.slice (some (Ad G1 0)) n1 n1)] 22 u1 Hb.out);have Hh:=Za (Blk.farCells (show G1≠B by omega) [(.slice (some (Ad G1 0)) n1 n1)] 22 u1 Hh.out);have Hc:=Za (Blk.farCells (show G0≠B by omega) [(.slice (some (Ad G1 0)) n1 n1)] 22 u1 Hc.out);have e9:u1.setCell (Ad B 22) (.slice (some (Ad G1 0)) n1 n1)=u1.setCells B 22 [(.slice (some (Ad G1 0)) n1 n1)]:=rfl;rw[e9];clear e9;generalize u1.setCells B 22 [(.slice (some (Ad G1 0)) n1 n1)]=u2 at Hi Ha Hb Hh Hc⊢;refine hK.out _ _ Hi.out (fun _=>?_);clear hK K;clear Hg;refine Dn ?_;go_simp;have HB:=Hi;clear Hi;generalize u2=x1 at HB Ha Hb Hh Hc⊢;clear Hk;refine Ek ?_;have f0:x1.cell? (Ad B 22)=some (.slice (some (Ad G1 0)) n1 n1):=(Ha.out.cell (j:=22) rfl).1
 go_wp2_with (refine isCopy _ _ _ _ rfl ?_;refine Zgl rfl (.tmp 56) (.tmp 57) 35 35 rfl 116 underlying35 3 Xz G1 0 n1 n1 p1 (S.sc 1) rfl rfl (svL (sv 1)) (by rw[Wg,hn1]) (vls_src (by omega) (Hr.out.later HB.out)) (Hh.out.there (by rw[Wg,hn1,made_len];omega)) (svL_one _) ?_);clear f0
 have Hh:Hid (Blk 116 (World.setCells x1 G1 0 (svL (sv 1))) G1 (svL (sv 1))):=by
  have h:=Blk.setCells (svL (sv 1)) 0 x1 _ Hh.out;rw[U8 _ _ (by rw[Wg,hn1,made_len])] at h;exact Za h
 have Ha:=Za (Blk.farCells (show B≠G1 by omega) (svL (sv 1)) 0 x1 Ha.out);have Hb:=Za (Xn (V:=G1) (fun g e h=>by have:=Hj.out g e h;omega) (svL (sv 1)) 0 x1 Hb.out);have HB:=Za (Zr (svL (sv 1)) 0 x1 HB.out (show w.heap.size≤G1 by omega));have Hc:=Za (Blk.farCells (show G0≠G1 by omega) (svL (sv 1)) 0 x1 Hc.out)
 have hBG1:B<G1:=by omega
 clear hlt;generalize World.setCells x1 G1 0 (svL (sv 1))=v2 at *;rw[rounds_succ];go_wp2_with fail;go_ret2;refine⟨B,({ S with sp:=upd (upd S.sp 0 (some (Ad G0 0))) 1 (some (Ad G1 0)),sn:=upd (upd S.sn 0 n0) 1 n1,sc:=upd (upd S.sc 0 n0) 1 n1 }:FS),a,cap,fun i=>if i=0 then G0 else G1,rfl,⟨rfl,rfl,rfl⟩,⟨Ha.out,Hb.out,HB.out,hBw,fun g e h=>by have:=Hj.out g e h;omega,fun i hi=>?_,?_,hmany,fun b h1 _ _ _=>HB.out.block b h1⟩⟩
 · rcases Qtw i with rfl|rfl
   · exact⟨rfl,hn0.symm,Hc.out,by show w.heap.size≤G0;omega,by show G0≠B;omega,fun g e h=>by have:=Hj.out g e h;show g≠G0;omega⟩
   · exact⟨rfl,hn1.symm,Hh.out,by show w.heap.size≤G1;omega,by show G1≠B;omega,fun g e h=>by have:=Hj.out g e h;show g≠G1;omega⟩
 · show G0≠G1
   omega
theorem FR.up{G:Nat→Nat}(h:FR K wz u B S C a cap l sv G)(h':FR K u u' B S' C a cap l sv' G):FR K wz u' B S' C a cap l sv' G:=
 ⟨h'.blk,h'.rds,h.low.trans h'.low,h'.base,h'.far,h'.servo,h'.two,h'.many,fun b h1 h2 h3 h4=>(h'.oth b (Nat.lt_of_lt_of_le h1 h.low.size) h2 h3 h4).trans (h.oth b h1 h2 h3 h4)⟩
theorem FR.beside{G:Nat→Nat}(h':FR K u u' B S' C a cap l sv' G){t:TypeId}{cs:List Value}(h:Blk t u V cs)(h2:V≠B)(h3:V≠G 0)(h4:V≠G 1):Blk t u' V cs:=(h'.oth V h.lt h2 h3 h4).trans h
theorem firstError_seq(g0 cap n:Nat)(f:Nat→Nat)(x:Value)(I:Nat→World→Prop)(hn:n≤1000)(hI:∀k u u',I k u→Bw u u'→I k u')(hcell:∀k u,k<n→I k u→Kc u g0 k (.func (.func (f k)) #[x] #[]))(hent:∀k,k<n→∀args w,(callFunc (f k) args).run prog w=.ok (.enter (f k) args) w)(hcall:∀k,k<n→∀u,I k u→Calls prog (f k) #[x] u fun r u'=>r=.returned .nilIface∧I (k+1) u')(w:World)(h0:I 0 w):
 Calls prog 57 #[.slice (some (Ad g0 0)) n cap] w fun r w'=>r=.returned .nilIface∧I n w':=by
 have HI:=Za hI;have HC:=Za hcell;have HK:=Za hcall;have HE:=Za hent;have H0:=Za h0;clear hI hcell hcall hent h0
 go_enter func57,ntmps57
 go_wp2
 go_loopw [8] (fun i wr=>∃k:Nat,k≤n∧i=Vi k∧Hid (I k wr)) (fun i _=>n-(intOf i).toNat)
 case atStart=>exact⟨0,Nat.zero_le _,rfl,H0⟩
 case round=>
  obtain⟨k,hk,rfl,hi⟩:=hrel;clear H0
  by_cases hlt:k<n
  · have hcell:=HC.out k wr hlt hi.out;have hen:=HE.out k hlt;have hca:=HK.out k hlt _ (HI.out k wr _ hi.out (Zb wr (.cells #[Vi 0] 44)));generalize f k=gk at*
    have k0:(0:Int)≤(k:Int):=by omega
    have k1:(k:Int)<(n:Int):=by omega
    clear hi
    go_wp2_with (first
     |(go_at_fn gk;refine hca.mono ?_;rintro r w1 ⟨rfl,hi1⟩;have Ha:=Za hi1;clear hi1)
     |(go_at_call 101;refine(as_nil _ _).mono ?_;rintro r w2 ⟨rfl,rfl⟩))
    go_roundw
    case rel=>exact⟨k+1,by omega,by go_num,Ha⟩
    case measure=>simp[intOf];omega
  · obtain rfl:k=n:=by omega
    go_wp2_with fail;go_ret;exact⟨rfl,hi.out⟩
def sS1(C:CR)(S:FS)(l:List Rd):FS:={ S with bk:=upd (upd (upd S.bk 2 (vbk (S.bk 2) C.c0 C.c1 (tS l 8) (sS l 8))) 0 (vbk (S.bk 0) (C.a 0 8) (C.a 0 9) (tS l 1) (sS l 1))) 1 (vbk (S.bk 1) (C.a 1 8) (C.a 1 9) (tS l 2) (sS l 2)) }
def vS1(C:CR)(l:List Rd)(sv:Nat→List Sv):Nat→List Sv:=wsx C l sv 2
def sS2(C:CR)(S:FS)(l:List Rd)(sv:Nat→List Sv):FS:={ sS1 C S l with n:=lwM C (sS1 C S l) l (vS1 C l sv) }
def sS3(C:CR)(S:FS)(l:List Rd)(sv:Nat→List Sv):FS:={ sS2 C S l sv with hd:=upd (upd (sS2 C S l sv).hd 0 (mvH C (sS2 C S l sv) l (vS1 C l sv) 0)) 1 (mvH C (sS2 C S l sv) l (vS1 C l sv) 1) }
def vS3(C:CR)(S:FS)(l:List Rd)(sv:Nat→List Sv):Nat→List Sv:=upd (upd (vS1 C l sv) 0 (mvS C (sS2 C S l sv) l (vS1 C l sv) 0)) 1 (mvS C (sS2 C S l sv) l (vS1 C l sv) 1)
structure StOK (K:Nat) (wz:World) (C:CR) (S:FS) (l:List Rd) (sv:Nat→List Sv):Prop where
 v2:Z5 (S.bk 2).b (S.bk 2).l C.c0 C.c1 (tS l 8) (sS l 8)=0
 v0:Z5 (S.bk 0).b (S.bk 0).l (C.a 0 8) (C.a 0 9) (tS l 1) (sS l 1)=0
 v1:Z5 (S.bk 1).b (S.bk 1).l (C.a 1 8) (C.a 1 9) (tS l 2) (sS l 2)=0
 l9:∀i,i<2→(sv i).length≤9
 sW:∀i,i<2→∀k,k<(sv i).length→svE (C.a i 5) (C.a i 6) (C.a i 7) (C.a i 10) (svAt (sv i) k).1 (svAt (sv i) k).2.1 (svAt (sv i) k).2.2=0
 m9:∀i,i<2→(vS1 C l sv i).length≤9
 h0:heE (heM C (sS1 C S l) (vS1 C l sv) 0).1 (heM C (sS1 C S l) (vS1 C l sv) 0).2.1 (heM C (sS1 C S l) (vS1 C l sv) 0).2.2=0
 h1:heE (heM C (sS1 C S l) (vS1 C l sv) 1).1 (heM C (sS1 C S l) (vS1 C l sv) 1).2.1 (heM C (sS1 C S l) (vS1 C l sv) 1).2.2=0
 nB:betw S.n 0 3=true
 m0:MvOK K wz C (sS2 C S l sv) l (vS1 C l sv) 0
 m1:MvOK K wz C (sS2 C S l sv) l (vS1 C l sv) 1
 t9:∀i,i<2→(vS3 C S l sv i).length≤9
 t:∀k,k<(rdA (vS3 C S l sv) (sS3 C S l sv).n).length→Yc (rat (rdA (vS3 C S l sv) (sS3 C S l sv).n) k)=true
theorem MvOK.rebase(h:MvOK K wz C S l sv i)(hb:Below K wz u):MvOK K u C S l sv i:=
 ⟨h.n1,h.n4,h.m0,h.m1,h.mc,fun v hv=>h.line v (hb.trans hv),h.ok,h.h4,h.h5,h.h3,h.h7,h.h6,h.ho,h.gm⟩
def kS(C:CR)(S:FS)(l:List Rd)(sv:Nat→List Sv)(k:Nat):FS:=if k=0 then S else if k=1 then sS1 C S l else if k=2 then sS1 C S l else if k=3 then sS2 C S l sv else sS3 C S l sv
def kV(C:CR)(S:FS)(l:List Rd)(sv:Nat→List Sv)(k:Nat):Nat→List Sv:=if k=0 then sv else if k=1 then sv else if k=2 then vS1 C l sv else if k=3 then vS1 C l sv else vS3 C S l sv
def fM(k:Nat):Nat:=[58,59,60,61].getD k 0
def fmL(B:Nat):List Value:=[.func (.func 58) #[.pointer (some (Ad B 0))] #[],.func (.func 59) #[.pointer (some (Ad B 0))] #[],.func (.func 60) #[.pointer (some (Ad B 0))] #[],.func (.func 61) #[.pointer (some (Ad B 0))] #[]]
theorem hent4(k:Nat)(hk:k<4)(args:Array Value)(w:World):(callFunc (fM k) args).run prog w=.ok (.enter (fM k) args) w:=by
 rcases(show k=0∨k=1∨k=2∨k=3 by omega) with rfl|rfl|rfl|rfl<;>kernel_rfl
theorem methods_ok{g0 cap4:Nat}{G:Nat→Nat}(hf:FR K wz w B S C a cap l sv G)(ho:StOK K wz C S l sv)(hg:Blk 142 w g0 (fmL B))(hB:B<g0)(h0:G 0<g0)(h1:G 1<g0):
 Calls prog 57 #[.slice (some (Ad g0 0)) 4 cap4] w fun r w'=>r=.returned .nilIface∧FR K wz w' B (sS3 C S l sv) C a cap l (vS3 C S l sv) G:=by
 refine(firstError_seq g0 cap4 4 fM (.pointer (some (Ad B 0))) (fun k u=>FR K wz u B (kS C S l sv k) C a cap l (kV C S l sv k) G∧Blk 142 u g0 (fmL B)) (by decide) (fun k u u' h hb=>⟨h.1.later hb,h.2.later hb⟩) ?_ hent4 ?_ w ⟨hf,hg⟩).mono ?_
 · intro k u hk h
   rcases(show k=0∨k=1∨k=2∨k=3 by omega) with rfl|rfl|rfl|rfl
   · exact(h.2.cell (j:=0) rfl).1
   · exact(h.2.cell (j:=1) rfl).1
   · exact(h.2.cell (j:=2) rfl).1
   · exact(h.2.cell (j:=3) rfl).1
 · intro k hk u h
   rcases(show k=0∨k=1∨k=2∨k=3 by omega) with rfl|rfl|rfl|rfl
   · have hr:FR K u u B S C a cap l sv G:=FR.rebase h.1;exact(voteBanks_ok hr ho.v2 ho.v0 ho.v1).mono fun _ u' k=>⟨k.1,FR.up h.1 (show FR K u u' B (sS1 C S l) C a cap l sv G from k.2),FR.beside k.2 h.2 (by omega) (by omega) (by omega)⟩
   · have hr:FR K u u B (sS1 C S l) C a cap l sv G:=FR.rebase h.1;exact(watchServos_ok hr ho.l9 ho.sW).mono fun _ u' k=>⟨k.1,FR.up h.1 (show FR K u u' B (sS1 C S l) C a cap l (vS1 C l sv) G from k.2),FR.beside k.2 h.2 (by omega) (by omega) (by omega)⟩
   · have hr:FR K u u B (sS1 C S l) C a cap l (vS1 C l sv) G:=FR.rebase h.1;exact(chooseLaw_ok hr ho.m9 ho.h0 ho.h1 ho.nB).mono fun _ u' k=>⟨k.1,FR.up h.1 (show FR K u u' B (sS2 C S l sv) C a cap l (vS1 C l sv) G from k.2),FR.beside k.2 h.2 (by omega) (by omega) (by omega)⟩
   · have hr:FR K u u B (sS2 C S l sv) C a cap l (vS1 C l sv) G:=FR.rebase h.1;exact(moveAxes_ok hr (ho.m0.rebase h.1.low) (ho.m1.rebase h.1.low)).mono fun _ u' k=>⟨k.1,FR.up h.1 (show FR K u u' B (sS3 C S l sv) C a cap l (vS3 C S l sv) G from k.2),FR.beside k.2 h.2 (by omega) (by omega) (by omega)⟩
 · rintro r w' ⟨rfl,h⟩;exact⟨rfl,h.1⟩
theorem u32_far(hg:g≠V)(vs:List Value)(o:Nat)(h:U32s u (some (Ad g 0)) zs):U32s (u.setCells V o vs) (some (Ad g 0)) zs:=by
 rcases h with h|⟨b,e,hc⟩
 · exact .inl h
 · simp only[Option.some.injEq,Addr.mk.injEq] at e;obtain⟨rfl,_⟩:=e;exact .inr ⟨g,rfl,fun k hk=>W6 hg vs o u (hc k hk)⟩
theorem fr_state(S:FS)(C:CR)(x:Value):((frL S C x).drop 0).take 30=stL S:=rfl
theorem res_step(tmps:Array Value)(U:World)(Y:Nat)(cs:List Value)(x y:Value)(h6:tmps.getD 6 undef=.pointer (some (Ad Y 0)))(h7:tmps.getD 7 undef=x)(h8:tmps.getD 8 undef=y)(hR:U.rangeAt Y 0 cs)(hn:cs.length=30):
 (results Tryz.f16 tmps).run prog U=.ok (.tuple #[.agg cs.toArray,x,y]) U:=by
 have h3:tmps[6]?.getD undef=.pointer (some (Ad Y 0)):=by simpa using h6
 have h4:tmps[7]?.getD undef=x:=by simpa using h7
 have h5:tmps[8]?.getD undef=y:=by simpa using h8
 simp[results,results16,h3,h4,h5,asAddr,run_loadVar_mid U Y 0 41 cs _ hR underlying41 rfl (by rw[Yk,hn])]
theorem fccStep_all(C:CR)(S:FS)(sv:Nat→List Sv)(ws:List Int)(aw:Option Addr)(cw:Nat)(w:World)(hg:GV w)(hl:CrL w C)(hv:SvL w S sv)(hw:Wds w aw ws)(h64:ws.length≤64)(h0:stE C S sv=0)(hok:∀K wz S',(S'.bk=S.bk∧S'.hd=S.hd∧S'.n=S.n)→(∀u,Below K wz u→CrL u C)→StOK K wz C S' (gat rdOf ws) sv):
 Calls prog 16 #[.agg (crL C).toArray,.agg (stL S).toArray,.slice aw ws.length cw] w fun e w'=>∃S' g c,e=.returned (.tuple #[.agg (stL (sS3 C S' (gat rdOf ws) sv)).toArray,.slice (some (Ad g 0)) (rdA (vS3 C S' (gat rdOf ws) sv) (sS3 C S' (gat rdOf ws) sv).n).length c,.nilIface])∧(S'.bk=S.bk∧S'.hd=S.hd∧S'.n=S.n)∧SvL w' (sS3 C S' (gat rdOf ws) sv) (vS3 C S' (gat rdOf ws) sv)∧U32s w' (some (Ad g 0)) (pkU (rdA (vS3 C S' (gat rdOf ws) sv) (sS3 C S' (gat rdOf ws) sv).n) (rdA (vS3 C S' (gat rdOf ws) sv) (sS3 C S' (gat rdOf ws) sv).n).length)∧Bw w w'∧∀i,i<2→∃G,(sS3 C S' (gat rdOf ws) sv).sp i=some (Ad G 0)∧w.heap.size≤G:=by
 have hgm:(gat rdOf ws).length≤1000:=by have:=Uw rdOf ws;omega
 have hnf:=fun u (h:Bw w u)=>newFrame_ok C S sv ws aw cw u (hg.later h) (hl.later h) (hv.later h) (hw.later h) h64 hgm h0;have HB:Hid (Bw w (((w.alloc (.cells (crL C).toArray 29)).alloc (.cells (stL S).toArray 41)).alloc (.cells Qaa 41))):=Za (Zc (Zc (Zb w (.cells (crL C).toArray 29)) (Zb _ (.cells (stL S).toArray 41))) (Zb _ (.cells Qaa 41)));have HC:Hid (World.rangeAt (((w.alloc (.cells (crL C).toArray 29)).alloc (.cells (stL S).toArray 41)).alloc (.cells Qaa 41)) w.heap.size 0 (crL C)):=Za ((((Blk.new w 29 (crL C)).later (Zb _ (.cells (stL S).toArray 41))).later (Zb _ (.cells Qaa 41))).range)
 have HS:Hid (World.rangeAt (((w.alloc (.cells (crL C).toArray 29)).alloc (.cells (stL S).toArray 41)).alloc (.cells Qaa 41)) (w.heap.size+1) 0 (stL S)):=Za (by have:=((Blk.new (w.alloc (.cells (crL C).toArray 29)) 41 (stL S)).later (Zb _ (.cells Qaa 41))).range;rw[World.size_alloc] at this;exact this);have HY:Hid (Blk 41 (((w.alloc (.cells (crL C).toArray 29)).alloc (.cells (stL S).toArray 41)).alloc (.cells Qaa 41)) (w.heap.size+1+1) Qaf):=Za (by have:=Blk.new ((w.alloc (.cells (crL C).toArray 29)).alloc (.cells (stL S).toArray 41)) 41 Qaf;rw[World.size_alloc,World.size_alloc] at this;exact this);have HL:=Za hl;have Hd:=Za hok;clear hg hl hv hw h0 hok;generalize hgl:gat rdOf ws=l at*
 have hYw:w.heap.size≤w.heap.size+1+1:=by omega
 go_enter func16,ntmps16
 go_upto_region 1 with fail;generalize (((w.alloc (.cells (crL C).toArray 29)).alloc (.cells (stL S).toArray 41)).alloc (.cells Qaa 41))=v0 at *;generalize w.heap.size+1+1=Y at*
 go_upto_region 4 with(first
  |(refine Lm 29 (.tmp 3) rfl w.heap.size 0 (crL C) HC.out underlying29 Zt ?_)
  |(refine Lm 41 (.tmp 4) rfl (w.heap.size+1) 0 (stL S) HS.out underlying41 Yk ?_)
  |(go_at_call 56;refine(hnf _ HB.out).mono ?_;rintro e v1 ⟨B,S',a,cap,G,rfl,hS',hf⟩;have HF:=Za hf;have Hf:=Za hS';clear hf hS'))
 have Hb:=Za (Hd.out v0.heap.size v0 S' Hf.out (fun u hu=>HL.out.later (Zc HB.out hu)));have Hg:Hid (Blk 142 (v1.alloc (.cells (fmL B).toArray 142)) v1.heap.size (fmL B)):=Za (Blk.new v1 _ _);have hB1:=HF.out.lt;have hG0:=(HF.out.servo 0 (by omega)).2.2.1.lt;have hG1:=(HF.out.servo 1 (by omega)).2.2.1.lt;have hYv:=HY.out.lt;have Hh:=Za (HF.out.later (Zb v1 (.cells (fmL B).toArray 142)));clear HF hnf HC HS Hd HL
 go_upto_region 7 with(go_at_call 57;refine Sb (methods_ok Hh.out Hb.out Hg.out hB1 hG0 hG1) fun v3 hf=>?_;have Hc:=Za hf;clear hf);have hv3:=Hc.out.low.size;clear Hh Hg hB1 hG0 hG1
 go_upto_region 10 with(go_at_call 62;refine(tell_ok Hc.out Hb.out.t9 Hb.out.t).mono ?_;rintro e v4 ⟨⟨g,c,rfl,hgw,hu⟩,hb⟩;have HU:=Za hu;have Hi:=Za hgw;have Ha:=Za (Hc.out.later hb);clear hu hgw hb Hc);have HR:=Za (Ha.out.blk.sub 0 30);rw[fr_state] at HR;have Hj:Hid (Blk 41 v4 Y Qaf):=Za ((Ha.out.low.block Y HY.out.lt).trans HY.out);have HT:=Za (Hj.out.there (o:=0) (n:=30) (by decide));have h9:=Hb.out.t9;generalize hT:sS3 C S' l sv=T at *;generalize hV:vS3 C S' l sv=V at*
 go_wp2_with (first
  |(refine Lm 41 (.tmp 49) rfl B 0 (stL T) HR.out underlying41 Yk ?_)
  |(refine Sq 41 _ _ rfl ?_;refine wpList_store_mid rfl 41 (.tmp 6) (.tmp 50) rfl Y 0 (stL T).toArray rfl rfl HT.out Yk (Zn _ rfl) ?_))
 have Hk:Hid ((World.setCells v4 Y 0 (stL T)).rangeAt Y 0 (stL T)):=Za (World.rangeAt_setCells_same v4 Y 0 (stL T) HT.out);refine bodyPost_ret (v:=.tuple #[.agg (stL T).toArray,.slice (some (Ad g 0)) (rdA V T.n).length c,.nilIface]) (res_step _ _ Y (stL T) _ _ rfl rfl rfl Hk.out rfl) rfl ⟨S',g,c,?_,Hf.out,fun i hi=>?_,?_,?_,fun i hi=>?_⟩
 · rw[hT,hV]
 · rw[hT,hV];refine⟨(Ha.out.servo i hi).2.1,h9 i hi,?_⟩;rw[(Ha.out.servo i hi).1];exact blk_vls (Blk.farCells (show G i≠Y by have:=(Ha.out.servo i hi).2.2.2.1;omega) (stL T) 0 v4 (Ha.out.servo i hi).2.2.1)
 · rw[hT,hV];exact u32_far (by have:=Hi.out;omega) (stL T) 0 HU.out
 · exact Zr (stL T) 0 v4 (Zc HB.out Ha.out.low) hYw
 · rw[hT];exact⟨G i,(Ha.out.servo i hi).1,Nat.le_trans HB.out.size (Ha.out.servo i hi).2.2.2.1⟩
theorem fnd_mem{a:Int}:∀{l:List Rd} {r:Rd},fnd a b l=some r→r∈l
 |[],_,h=>by cases h
 |x::t,r,h=>by
  unfold fnd at h
  split at h
  · cases h;simp
  · exact List.mem_cons_of_mem _ (fnd_mem h)
theorem dat_bd(x:Int):-262144≤datI x∧datI x≤262143:=by
 unfold datI;split<;>omega
theorem smp_bd(ws:List Int)(x y:Int):-262144≤(smp (gat rdOf ws) x y).2∧(smp (gat rdOf ws) x y).2≤262143:=by
 unfold smp
 cases h:fnd x y (gat rdOf ws) with
 |none=>simp
 |some r=>
  obtain⟨z,_,hz⟩:=gat_mem rdOf ws r (fnd_mem h)
  have hd:-262144≤r.2.2.2∧r.2.2.2≤262143:=by
   unfold rdOf at hz
   split at hz
   · cases hz;exact dat_bd z
   · cases hz
  dsimp only
  split
  · exact hd
  · simp
theorem samp_ok(ws:List Int)(x:Int):Xb (tS (gat rdOf ws) x) (sS (gat rdOf ws) x) 3=true:=by
 have h:∀k,Zu (sS (gat rdOf ws) x k)=true:=fun k=>by
  unfold sS Zu
  have a:=smp_bd ws x 0;have b:=smp_bd ws x 1;have c:=smp_bd ws x 2;simp only[Bool.and_eq_true,decide_eq_true_eq]
  split
  · omega
  · split<;>omega
 simp[Xb,h]
theorem stepE_ok{b:Nat→Int}{l:Int}(h1:Z7 m c=0)(h2:Yg b l=0)(h3:Xb t s 3=true):Z5 b l m c t s=0:=by
 unfold Z5;rw[if_pos h1,if_pos h2,if_pos h3]
theorem wv_ok{s:Sv}(hs:svB (C.a i 5) (C.a i 10) s.1 s.2.1 s.2.2=true)(hr:arB (C.a i 5) (C.a i 6) (C.a i 7) (C.a i 10)=true):svB (C.a i 5) (C.a i 10) (wv C l i k s).1 (wv C l i k s).2.1 (wv C l i k s).2.2=true:=by
 obtain⟨⟨i0,i1⟩,⟨b0,b1⟩,ho,hb⟩:=Yv hs;have ha:=(Yf hr).1
 unfold wv wI wB wO
 dsimp only
 generalize hf:fineW (C.a i 7) s.1 (smp l (16+4*(i:Int)+(k:Int)) 3).2 s.2.2 (smp l (16+4*(i:Int)+(k:Int)) 3).1=f
 cases f
 · have hso:s.2.2=false:=by
    unfold fineW at hf
    cases h:s.2.2
    · rfl
    · rw[h] at hf;simp at hf
   have:=hb hso;simp only[Bool.false_eq_true,if_false]
   by_cases e:s.2.1+1=C.a i 10
   · rw[if_pos e];exact sv_mk (by omega) (by omega) (fun _=>rfl) (fun h=>by simp[e] at h)
   · rw[if_neg e];exact sv_mk (by omega) (by omega) (fun h=>by simp[e] at h) (fun _=>by omega)
 · simp only[if_true];exact hs
theorem wml_get(C:CR)(l:List Rd)(i:Nat)(L:List Sv){j:Nat}(hj:j<L.length):svAt (wml C l i L L.length) j=wv C l i j (svAt L j):=by
 simp[wml,svAt,hj]
theorem vS1_at(C:CR)(l:List Rd)(sv:Nat→List Sv)(hi:i<2):vS1 C l sv i=wml C l i (sv i) (sv i).length:=by
 unfold vS1 wsx;rw[if_pos hi]
theorem X0(C:CR)(l:List Rd)(sv:Nat→List Sv)(hi:i<2):(vS1 C l sv i).length=(sv i).length:=by
 rw[vS1_at C l sv hi,Ws]
theorem neI_bd{a:Int}(g:Bool)(ha:betw a 0 3=true)(hb:betw b 0 3=true):betw (neI a b g) 0 3=true:=by
 unfold neI
 rw[ha,hb];simp only[Bool.and_self,if_true]
 cases g
 · simp only[Bool.false_eq_true,if_false]
   unfold mxL
   split<;>assumption
 · exact hb
theorem clE_zero(h:clE n=0):betw n 0 3=true:=by
 unfold clE at h
 split at h
 · assumption
 · cases h
theorem Y6{a:Int}(h:a≤x∧x≤b):betw x a b=true:=by
 simp only[betw,Bool.and_eq_true,decide_eq_true_eq];omega
section
variable {C : CR} {S S' : FS} {sv : Nat → List Sv} {ws : List Int}
theorem stE_same(h:S'.bk=S.bk∧S'.hd=S.hd∧S'.n=S.n):stE C S' sv=stE C S sv:=by
 unfold stE
 have:eSt C S' sv=eSt C S sv:=by funext k;unfold eSt;rw[h.1,h.2.1,h.2.2]
 rw[this]
theorem he_ok(h:stE C S sv=0)(hi:i<2)(T:FS):heE (heM C T (vS1 C (gat rdOf ws) sv) i).1 (heM C T (vS1 C (gat rdOf ws) sv) i).2.1 (heM C T (vS1 C (gat rdOf ws) sv) i).2.2=0:=by
 have a:=leftU_bd (T.bk i).o 3;have b:=sndU_bd (vS1 C (gat rdOf ws) sv i) (vS1 C (gat rdOf ws) sv i).length;have c:=(Xe h hi).1;have d:=stE_sv h hi;rw[X0 C _ sv hi] at b
 unfold heM heE heB
 dsimp only
 rw[X0 C _ sv hi];rw[if_pos];simp only[Bool.and_eq_true];refine⟨⟨Y6 (by omega),Y6 (by omega)⟩,Y6 ?_⟩
 omega
theorem law_ok(h:stE C S sv=0)(T:FS)(hT:T.n=S.n):betw (lwM C T (gat rdOf ws) (vS1 C (gat rdOf ws) sv)) 0 3=true:=by
 unfold lwM
 exact neI_bd _ (by rw[hT];exact clE_zero ((Yd h).2 0 (by omega))) (waI_bd (he_ok h (by omega) T) (he_ok h (by omega) T))
theorem vS1_ok(h:stE C S sv=0)(hi:i<2):AllOk (C.a i 5) (C.a i 6) (C.a i 7) (C.a i 10) (vS1 C (gat rdOf ws) sv i):=by
 have hr:=arE_arB (show arE (C.a i 5) (C.a i 6) (C.a i 7) (C.a i 10)=0 from Xq (Yd h).1 hi (k:=2) (by omega));refine⟨hr,fun k hk=>?_⟩;rw[X0 C _ sv hi] at hk;rw[vS1_at C _ sv hi,wml_get C _ i (sv i) hk];exact wv_ok (Wo (seU_all _ (Xe h hi).2 k hk)).2 hr
theorem hold_ok(h:stE C S sv=0)(hi:i<2):stB (C.a i 0) (C.a i 1) (moI C i) (S.hd i).1 (S.hd i).2.1 (S.hd i).2.2=true:=by
 have:chE C i (S.hd i)=0:=by
  rcases Qtw i with rfl|rfl
  · exact(Yd h).2 5 (by omega)
  · exact(Yd h).2 7 (by omega)
 exact(Wh this).2.1
theorem pv_in(C:CR)(i:Nat)(L:List Sv)(hm:1≤moI C i):-moI C i≤pvI C i L∧pvI C i L≤moI C i:=Y2 (v:=smU L L.length) (show -moI C i≤moI C i by omega)
theorem mv_ok(h:stE C S sv=0)(hl:∀u,Below K wz u→CrL u C)(hi:i<2)(T:FS)(hT:T.hd=S.hd)(hn:betw T.n 0 3=true):MvOK K wz C T (gat rdOf ws) (vS1 C (gat rdOf ws) sv) i:=by
 have hc:=axC_of (Yd h).1 (hl wz (Below.refl _ _)) hi;have d:=stE_sv h hi;have hru:ruE (C.a i 0) (C.a i 1) (C.a i 11) (C.a i 14) (moI C i) (C.al i) (C.zl i)=0:=Xq (Yd h).1 hi (k:=4) (by omega);have hgr:grE (C.a i 0) (C.a i 1) (C.a i 2) (puI C i) (moI C i) (raI C i)=0:=Xq (Yd h).1 hi (k:=3) (by omega);have hm:1≤moI C i:=(X7 (X8 hru).1).2.2.2.2.1;have hp:=pv_in C i (vS1 C (gat rdOf ws) sv i) hm;refine⟨by rw[X0 C _ sv hi];omega,by rw[X0 C _ sv hi];omega,hc.m0,hc.m1,hc.mc,fun u hu=>⟨(hl u hu i hi).2.2.2.1,(hl u hu i hi).2.2.2.2⟩,vS1_ok h hi,hc.h4,hc.h5,hc.h3,hc.h7,hc.h6,?_,?_⟩
 · unfold hoE
   rw[if_pos hru,hT,if_pos (hold_ok h hi),if_pos]
   unfold asB
   rw[hn,Y6 hp];have:=Y2 (v:=(smp (gat rdOf ws) (32+(i:Int)) 3).2) (show(-100:Int)≤100 by omega)
   unfold skI
   rw[Y6 this]
   rfl
 · unfold gmE
   rw[if_pos hgr,if_pos (Y6 hp)]
theorem Mo{m:List Rd}(hk:k<l.length):rat (l++m) k=rat l k:=by
 unfold rat;rw[List.getD_eq_getElem?_getD,List.getD_eq_getElem?_getD,List.getElem?_append_left hk]
theorem Mp{m:List Rd}(hk:l.length≤k):rat (l++m) k=rat m (k-l.length):=by
 unfold rat;rw[List.getD_eq_getElem?_getD,List.getD_eq_getElem?_getD,List.getElem?_append_right hk]
theorem rdU_at(i:Nat)(L:List Sv):∀n k,k<n→rat (rdU i L n) k=rd1 i L k
 |0,k,h=>by omega
 |n+1,k,h=>by
  rw[rdU]
  by_cases e:k=n
  · subst e;rw[Mp (by rw[Wk];omega),Wk,Nat.sub_self];rfl
  · rw[Mo (by rw[Wk];omega)];exact rdU_at i L n k (by omega)
theorem rd1_may(hi:i<2)(hk:k<9)(h:-2000≤(svAt L k).1∧(svAt L k).1≤2000):Yc (rd1 i L k)=true:=by
 unfold Yc rd1 mayR
 simp only[Bool.and_eq_true,decide_eq_true_eq];refine⟨⟨⟨⟨by omega,by omega⟩,by omega⟩,?_⟩,by omega,by omega⟩
 split<;>omega
theorem rdA_may{v:Nat→List Sv}(h9:∀i,i<2→(v i).length≤9)(hv:∀i,i<2→∀k,k<(v i).length→-2000≤(svAt (v i) k).1∧(svAt (v i) k).1≤2000)(hn:0≤n∧n≤3):∀k,k<(rdA v n).length→Yc (rat (rdA v n) k)=true:=by
 intro k hk;have a0:=h9 0 (by omega);have a1:=h9 1 (by omega)
 have e0:rdX v 1=rdU 0 (v 0) (v 0).length:=by simp[rdX]
 have e1:rdX v 2=rdX v 1++rdU 1 (v 1) (v 1).length:=rfl
 have l0:(rdX v 1).length=(v 0).length:=by rw[e0,Wk]
 have l1:(rdX v 2).length=(v 0).length+(v 1).length:=by rw[e1,List.length_append,l0,Wk]
 have hl:(rdA v n).length=(v 0).length+(v 1).length+1:=by rw[rdA,List.length_append,l1];rfl
 unfold rdA
 by_cases h2:k<(rdX v 2).length
 · rw[Mo h2,e1]
   by_cases h1:k<(rdX v 1).length
   · rw[Mo h1,e0,rdU_at 0 _ _ k (by omega)];exact rd1_may (by omega) (by omega) (hv 0 (by omega) k (by omega))
   · rw[Mp (by omega),l0,rdU_at 1 _ _ _ (by omega)];exact rd1_may (by omega) (by omega) (hv 1 (by omega) _ (by omega))
 · rw[Mp (by omega),show k-(rdX v 2).length=0 by omega]
   unfold rat Yc mayR
   simp only[List.getD_cons_zero,Bool.and_eq_true,decide_eq_true_eq]
   omega
theorem plI_bd2{S C:Int}(h:AllOk T R S C L)(s:Int)(hk:k<L.length):-2000≤(plI T R L s).getD k 0∧(plI T R L s).getD k 0≤2000:=by
 have g:∀(v s:Int) n k,k<n→(dlU T R L v s n).getD k 0=dlI T R L v s k:=by
  intro v s n
  induction n with
  |zero=>intro k h;omega
  |succ n ih=>
   intro k h;rw[dlU,List.getD_eq_getElem?_getD]
   by_cases e:k=n
   · subst e;rw[List.getElem?_append_right (by rw[Xc];omega),Xc];simp
   · rw[List.getElem?_append_left (by rw[Xc];omega),←List.getD_eq_getElem?_getD];exact ih k (by omega)
 unfold plI
 rw[g _ _ _ _ hk];have a:=tk_bd h hk (levI T R L (smI T R L s))
 unfold dlI
 split<;>omega
theorem mvS_len(T:FS)(l:List Rd)(v:Nat→List Sv)(i:Nat):(mvS C T l v i).length=(v i).length:=sik_len _ _ _
theorem mvS_bd(T:FS)(l:List Rd)(v:Nat→List Sv)(i:Nat)(h:AllOk (C.a i 5) (C.a i 6) (C.a i 7) (C.a i 10) (v i))(hk:k<(v i).length):-2000≤(svAt (mvS C T l v i) k).1∧(svAt (mvS C T l v i) k).1≤2000:=by
 unfold mvS svM
 rw[sik_end _ _ hk];exact plI_bd2 h _ hk
theorem stOK_of(h:stE C S sv=0)(K:Nat)(wz:World)(hs:S'.bk=S.bk∧S'.hd=S.hd∧S'.n=S.n)(hl:∀u,Below K wz u→CrL u C):StOK K wz C S' (gat rdOf ws) sv:=by
 have h':stE C S' sv=0:=by rw[stE_same hs];exact h
 clear h hs
 have hb:∀j,j<3→Yg (S'.bk j).b (S'.bk j).l=0:=fun j hj=>by
  rcases Qth j with rfl|rfl|rfl
  · exact(Yd h').2 1 (by omega)
  · exact(Yd h').2 2 (by omega)
  · exact(Yd h').2 3 (by omega)
 have hr:∀i,i<2→Z7 (C.a i 8) (C.a i 9)=0:=fun i hi=>Xq (Yd h').1 hi (k:=1) (by omega);have hn:betw S'.n 0 3=true:=clE_zero ((Yd h').2 0 (by omega))
 have h9:∀i,i<2→(sv i).length≤9:=fun i hi=>by have:=stE_sv h' hi;omega
 have hlw:betw (sS2 C S' (gat rdOf ws) sv).n 0 3=true:=law_ok h' _ rfl
 have hv3:∀i,i<2→vS3 C S' (gat rdOf ws) sv i=mvS C (sS2 C S' (gat rdOf ws) sv) (gat rdOf ws) (vS1 C (gat rdOf ws) sv) i:=fun i hi=>by
  rcases Qtw i with rfl|rfl<;>rfl
 have h3l:∀i,i<2→(vS3 C S' (gat rdOf ws) sv i).length=(sv i).length:=fun i hi=>by rw[hv3 i hi,mvS_len,X0 C _ sv hi]
 have hnb:=Z0 hlw
 exact⟨stepE_ok (crE_speed (Yd h').1) (hb 2 (by omega)) (samp_ok ws 8),stepE_ok (hr 0 (by omega)) (hb 0 (by omega)) (samp_ok ws 1),stepE_ok (hr 1 (by omega)) (hb 1 (by omega)) (samp_ok ws 2),h9,
  fun i hi k hk=>seU_all _ (Xe h' hi).2 k hk,fun i hi=>by rw[X0 C _ sv hi];exact h9 i hi,he_ok h' (by omega) _,he_ok h' (by omega) _,hn,mv_ok h' hl (by omega) _ rfl hlw,mv_ok h' hl (by omega) _ rfl hlw,
  fun i hi=>by rw[h3l i hi];exact h9 i hi,rdA_may (fun i hi=>by rw[h3l i hi];exact h9 i hi) (fun i hi k hk=>by
   rw[h3l i hi] at hk;rw[hv3 i hi]
   exact mvS_bd _ _ _ _ (vS1_ok h' hi) (by rw[X0 C _ sv hi];exact hk)) hnb⟩
end
theorem stE_mk(h:crE C=0)(k:∀k,k<8→eSt C S sv k=0):stE C S sv=0:=by
 unfold stE;rw[if_pos h,if_pos (U4 k)]
theorem bankE_zero{b:Nat→Int}{l:Int}(h:Yg b l=0):okU b 3=true∧Zu l=true:=by
 unfold Yg at h
 split at h
 · rename_i c;simpa using c
 · cases h
theorem bankE_mk{b:Nat→Int}{l:Int}(h:∀k,k<3→0≤b k∧b k≤10)(hl:-1000000≤l∧l≤1000000):Yg b l=0:=by
 have g:∀k,k<3→gb (b k)=true:=fun k hk=>by simp only[gb,Bool.and_eq_true,decide_eq_true_eq];exact h k hk
 unfold Yg
 rw[if_pos];simp only[okU,g 0 (by omega),g 1 (by omega),g 2 (by omega),Zu,Bool.and_true,Bool.and_eq_true,decide_eq_true_eq];exact⟨trivial,hl⟩
theorem bank_step{k:Bk}(h:Yg k.b k.l=0)(hs:Xb t s 3=true):Yg (vbk k m c t s).b (vbk k m c t s).l=0:=by
 obtain⟨h1,h2⟩:=bankE_zero h;have hw:=Ug h2;refine bankE_mk (fun j hj=>?_) (votI_bd (fit_of hs) hw.1 hw.2);have hb:=okU_true h1 j hj
 show 0≤nbI t k.o s k.b _ m j∧nbI t k.o s k.b _ m j≤10
 unfold nbI badI
 split
 · exact hb
 · split
   · omega
   · split<;>omega
theorem dlU_get(T R:Int)(L:List Sv)(v s:Int):∀n k,k<n→(dlU T R L v s n).getD k 0=dlI T R L v s k:=by
 intro n
 induction n with
 |zero=>intro k h;omega
 |succ n ih=>
  intro k h;rw[dlU,List.getD_eq_getElem?_getD]
  by_cases e:k=n
  · subst e;rw[List.getElem?_append_right (by rw[Xc];omega),Xc];simp
  · rw[List.getElem?_append_left (by rw[Xc];omega),←List.getD_eq_getElem?_getD];exact ih k (by omega)
theorem fdl_in{S C:Int}(h:AllOk T R S C L)(v s:Int)(hk:k<L.length):loR T R (svAt L k).1 (svAt L k).2.2≤dlI T R L v s k∧dlI T R L v s k≤hiR T R (svAt L k).1 (svAt L k).2.2:=by
 have a:=Y2 (v:=v) (h.le hk);have b:=Y2 (v:=v+1) (h.le hk)
 unfold dlI tk
 split<;>omega
theorem pl_ok{S C:Int}(h:AllOk T R S C L)(s:Int)(hk:k<L.length):svB T C ((plI T R L s).getD k 0) (svAt L k).2.1 (svAt L k).2.2=true:=by
 unfold plI
 rw[dlU_get _ _ _ _ _ _ _ hk];have a:=fdl_in h (levI T R L (smI T R L s)) (smI T R L s-tot T R L (levI T R L (smI T R L s))) hk;have b:=Yv (h.2 k hk);have t:=(Yf h.1).1;generalize dlI T R L _ _ k=x at*
 unfold loR hiR mxA mnA at a
 cases ho:(svAt L k).2.2
 · rw[ho] at a b;simp only[Bool.false_eq_true,if_false] at a;exact sv_mk (by omega) (by omega) (fun h=>by cases h) (fun _=>b.2.2.2 rfl)
 · rw[ho] at a b;simp only[if_true] at a;exact sv_mk (by omega) (by omega) (fun _=>by omega) (fun h=>by cases h)
theorem seU_mk:∀n,(∀k,k<n→svE (C.a i 5) (C.a i 6) (C.a i 7) (C.a i 10) (svAt L k).1 (svAt L k).2.1 (svAt L k).2.2=0)→seU C i L n=0
 |0,_=>rfl
 |n+1,h=>by
  rw[seU,if_pos (seU_mk n fun k hk=>h k (by omega))];exact h n (by omega)
theorem hold_step{h:Int×Int×Int}{k v:Int}(h0:chE C i h=0)(hn:betw n 0 3=true)(hm:1≤moI C i):chE C i (hoM C i h k x v n L)=0:=by
 obtain⟨r,s,a⟩:=Wh (show hoE _ _ _ _ _ _ _ _ _ _ _ _ _=0 from h0);have hs:=Up s
 unfold chE hoE
 rw[if_pos r,if_pos,if_pos a]
 unfold stB hoM
 simp only[Bool.and_eq_true];refine⟨⟨Y6 ?_,Y6 ?_⟩,hn⟩
 · show _≤haM C i h k x n∧haM C i h k x n≤_
   unfold haM wA a2I
   split
   · exact Y2 (by omega)
   · exact hs.1
 · have hd:-moI C i≤hdM C i h k x v n L∧hdM C i h k x v n L≤moI C i:=by
    unfold hdM wD d2I
    split
    · split
      · exact hs.2.1
      · exact Y2 (by omega)
    · exact hs.2.1
   unfold toD
   split
   · exact Y2 (by omega)
   · exact hd
section
variable {C : CR} {S : FS} {sv : Nat → List Sv} {ws : List Int}
theorem fv3_at(l:List Rd)(hi:i<2):vS3 C S l sv i=mvS C (sS2 C S l sv) l (vS1 C l sv) i:=by
 rcases Qtw i with rfl|rfl<;>rfl
theorem fv3_len(l:List Rd)(hi:i<2):(vS3 C S l sv i).length=(sv i).length:=by rw[fv3_at l hi,mvS_len,X0 C _ sv hi]
theorem mo_pos(h:crE C=0)(hi:i<2):1≤moI C i:=
 (X7 (X8 (show ruE (C.a i 0) (C.a i 1) (C.a i 11) (C.a i 14) (moI C i) (C.al i) (C.zl i)=0 from Xq h hi (k:=4) (by omega))).1).2.2.2.2.1
theorem stE_step(h:stE C S sv=0):stE C (sS3 C S (gat rdOf ws) sv) (vS3 C S (gat rdOf ws) sv)=0:=by
 have h8:=(Yd h).2;have hl:=law_ok (ws:=ws) h (sS1 C S (gat rdOf ws)) rfl
 have hcs:∀i,i<2→csE C i (vS3 C S (gat rdOf ws) sv i)=0:=fun i hi=>by
  unfold csE
  rw[fv3_len _ hi,if_pos (Xe h hi).1];refine seU_mk _ fun k hk=>?_;have ha:=vS1_ok (ws:=ws) h hi;refine svE_mk ha.1 ?_
  have hk':k<(vS1 C (gat rdOf ws) sv i).length:=by rw[X0 C _ sv hi];exact hk
  rw[fv3_at _ hi]
  unfold mvS svM
  rw[sik_end _ _ hk'];exact pl_ok ha _ hk'
 have hch:∀i,i<2→chE C i (S.hd i)=0:=fun i hi=>by
  rcases Qtw i with rfl|rfl
  · exact h8 5 (by omega)
  · exact h8 7 (by omega)
 refine stE_mk (Yd h).1 fun k hk=>?_
 rcases(show k=0∨k=1∨k=2∨k=3∨k=4∨k=5∨k=6∨k=7 by omega) with rfl|rfl|rfl|rfl|rfl|rfl|rfl|rfl
 · show clE (lwM C (sS1 C S (gat rdOf ws)) (gat rdOf ws) (vS1 C (gat rdOf ws) sv))=0
   unfold clE;rw[if_pos hl]
 · exact bank_step (h8 1 (by omega)) (samp_ok ws 1)
 · exact bank_step (h8 2 (by omega)) (samp_ok ws 2)
 · exact bank_step (h8 3 (by omega)) (samp_ok ws 8)
 · exact hcs 0 (by omega)
 · exact hold_step (hch 0 (by omega)) hl (mo_pos (Yd h).1 (by omega))
 · exact hcs 1 (by omega)
 · exact hold_step (hch 1 (by omega)) hl (mo_pos (Yd h).1 (by omega))
end
abbrev Ft:=Int×Int×Int×Int×Int
def ftD:Ft:=(0,0,0,0,0)
def ftAt(l:List Ft)(k:Nat):Ft:=l.getD k ftD
structure Stp where
 k:Nat→Int
 p:Nat→Int
 z:Nat→Int
 v:Int
 g:Bool
def hits(now ax un:Int)(sf:Bool)(f:Ft):Bool:=decide (f.1≤now)&&(decide (f.2.2.1=ax)&&(decide (f.2.2.2.1=un)&&(decide (f.2.1=4)==sf)))
def ailU(l:List Ft)(now ax un:Int)(sf:Bool):Nat→Option Ft
 |0=>none
 |k+1=>if hits now ax un sf (ftAt l k) then some (ftAt l k) else ailU l now ax un sf k
def ail(l:List Ft)(now ax un:Int)(sf:Bool):Option Ft:=ailU l now ax un sf l.length
def cD(x:Int):Int:=Ze x (-262143) 262143
def cW(x:Int):Int:=Ze x (-262144) 262143
def spo(f:Ft)(r:Rd):Rd:=if f.2.1=1 then(r.1,r.2.1,r.2.2.1,cD f.2.2.2.2) else if f.2.1=2 then(r.1,r.2.1,r.2.2.1,cW (r.2.2.2+cD f.2.2.2.2)) else if f.2.1=3 then(r.1,r.2.1,0,r.2.2.2) else r
def sdL(o:Option Ft)(r:Rd):List Rd:=match o with
 |none=>[r]
 |some f=>if f.2.1=0 then[] else[spo f r]
def chR(l:List Ft)(now ax k lab x:Int):List Rd:=sdL (ail l now ax k false) (lab,k,3,cW x)
def dig(b z:Int):Nat→Int
 |0=>z
 |k+1=>dig b z k/b
def noi(N z:Int)(k:Nat):Int:=dig (2*N+1) z k%(2*N+1)-N
def chU(l:List Ft)(now:Int)(i:Nat)(N x z:Int):Nat→List Rd
 |0=>[]
 |k+1=>chU l now i N x z k++chR l now i k (1+i) (x+noi N z k)
def suU(i:Nat)(at':Nat→Int):Nat→List Rd
 |0=>[]
 |k+1=>suU i at' k++[(16+4*(i:Int)+k,3,3,at' k)]
def axR(C:CR)(l:List Ft)(now:Int)(i:Nat)(x:Int)(at':Nat→Int)(s:Stp):List Rd:=chU l now i (C.a i 2) x (s.z i) 3++suU i at' (C.a i 4).toNat++[(32+(i:Int),3,3,s.k i)]
def spR(l:List Ft)(now v:Int):Nat→List Rd
 |0=>[]
 |k+1=>spR l now v k++chR l now 2 k 8 v
def axU(C:CR)(l:List Ft)(now:Int)(x:Nat→Int)(at':Nat→Nat→Int)(s:Stp):Nat→List Rd
 |0=>[]
 |i+1=>axU C l now x at' s i++axR C l now i (x i) (at' i) s
def saR(C:CR)(l:List Ft)(now:Int)(x:Nat→Int)(at':Nat→Nat→Int)(s:Stp):List Rd:=
 axU C l now x at' s 2++spR l now s.v 3++(if s.g then[(40,3,3,1)] else[])
structure FT where
 S:FS
 sv:Nat→List Sv
 x:Nat→Int
 at':Nat→Nat→Int
def plc(C:CR)(l:List Ft)(now:Int)(i k:Nat)(s:Sv):Int:=if s.2.2 then 0 else match ail l now i k true with
 |some f=>Ze f.2.2.2.2 (-(C.a i 5)) (C.a i 5)
 |none=>s.1
def plU(C:CR)(l:List Ft)(now:Int)(i:Nat)(L:List Sv):Nat→Int
 |0=>0
 |k+1=>plU C l now i L k+plc C l now i k (svAt L k)
def wsF(C:CR)(l:List Ft)(now:Int)(q:FT)(s:Stp):List Rd:=gat rdOf ((saR C l now q.x q.at' s).map pk1)
def stpF(C:CR)(l:List Ft)(now:Int)(q:FT)(s:Stp):FT:=
 ⟨sS3 C q.S (wsF C l now q s) q.sv,vS3 C q.S (wsF C l now q s) q.sv,
  fun i=>q.x i+plU C l now i (vS3 C q.S (wsF C l now q s) q.sv i) (C.a i 4).toNat+s.p i,
  fun i k=>if k<(C.a i 4).toNat then plc C l now i k (svAt (vS3 C q.S (wsF C l now q s) q.sv i) k) else q.at' i k⟩
def zB0:Bk:=⟨fun _=>0,fun _=>false,0⟩
def q0(C:CR):FT:=⟨⟨fun _=>zB0,fun _=>none,fun _=>0,fun _=>0,fun _=>(0,0,0),0⟩,fun i=>List.replicate (C.a i 4).toNat svD,fun _=>0,fun _ _=>0⟩
def stD:Stp:=⟨fun _=>0,fun _=>0,fun _=>0,0,false⟩
def stAt(l:List Stp)(k:Nat):Stp:=l.getD k stD
def flU(C:CR)(l:List Ft)(ss:List Stp):Nat→FT
 |0=>q0 C
 |n+1=>stpF C l n (flU C l ss n) (stAt ss n)
structure Rp where
 x:Nat→Int
 l:Nat→Int
 s:Nat→Int
 n:Int
 a:Nat→Nat→Int
def rpF(q:FT):Rp:=⟨q.x,fun i=>Zq (q.S.bk i).o 3,fun i=>sndU (q.sv i) (q.sv i).length,q.S.n,q.at'⟩
def rpL(r:Rp):List Value:=[Vi (r.x 0),Vi (r.x 1),Vi (r.l 0),Vi (r.l 1),Vi (r.s 0),Vi (r.s 1),Vi r.n,
 Vi (r.a 0 0),Vi (r.a 0 1),Vi (r.a 0 2),Vi (r.a 0 3),Vi (r.a 1 0),Vi (r.a 1 1),Vi (r.a 1 2),Vi (r.a 1 3)]
def rpU(C:CR)(l:List Ft)(ss:List Stp):Nat→List Rp
 |0=>[]
 |n+1=>rpU C l ss n++[rpF (flU C l ss (n+1))]
def ftL(f:Ft):List Value:=[Vi f.1,Vi f.2.1,Vi f.2.2.1,Vi f.2.2.2.1,Vi f.2.2.2.2]
def rdL(r:Rd):List Value:=[Vi r.1,Vi r.2.1,Vi r.2.2.1,Vi r.2.2.2]
theorem partOf_any(f:Ft)(w:World):Calls prog 251 #[.agg (ftL f).toArray] w (Rt w (.agg #[Vi f.2.2.1,Vi f.2.2.2.1,.bool (decide (f.2.1=4))])):=by
 obtain⟨a,k,x,u,i⟩:=f
 unfold ftL
 dsimp only
 go_enter func251,ntmps251
 go_wp2;exact bodyPost_ret (v:=.agg #[Vi x,Vi u,.bool (decide (k=4))]) (by simp[results,results251,go_sem];rfl) rfl ⟨rfl,Zc (Zb _ _) (Zb _ _)⟩
theorem common_any(lab x:Int)(w:World):Calls prog 190 #[Vi lab,Vi x] w (Rt w (.agg (rdL (lab,3,3,x)).toArray)):=by
 go_enter func190,ntmps190
 go_wp2;exact bodyPost_ret (v:=.agg (rdL (lab,3,3,x)).toArray) (by simp[results,results190,go_sem,rdL]) rfl ⟨rfl,Zb _ _⟩
def aiV(o:Option Ft):Value:=match o with
 |none=>.iface 348 (.agg #[])
 |some f=>if f.2.1=0 then .iface 350 (.agg #[]) else if f.2.1=1 then .iface 367 (.agg #[Vi (cD f.2.2.2.2)]) else if f.2.1=2 then .iface 369 (.agg #[Vi (cD f.2.2.2.2)]) else if f.2.1=3 then .iface 370 (.agg #[]) else .iface 348 (.agg #[])
theorem ailmentOf_any(f:Ft)(w:World):Calls prog 250 #[.agg (ftL f).toArray] w (Rt w (aiV (some f))):=by
 obtain⟨a,k,x,u,i⟩:=f
 unfold ftL aiV
 dsimp only
 have hcl:=Yu i (-262143) 262143;have HC:Hid (cD i=Ze i (-262143) 262143):=Za rfl;rw[←HC.out] at hcl;clear HC;generalize cD i=ci at*
 by_cases h0:k=0
 · have e0:(k==0)=true:=by simpa using h0
   rw[if_pos h0];clear h0
   go_enter func250,ntmps250
   go_wp2_with (go_at_call 172;refine Sm (hcl _) ?_);go_ret;exact⟨rfl,Zb _ _⟩
 have e0:(k==0)=false:=by simpa using h0
 rw[if_neg h0];clear h0
 by_cases h1:k=1
 · have e1:(k==1)=true:=by simpa using h1
   rw[if_pos h1];clear h1
   go_enter func250,ntmps250
   go_wp2_with (go_at_call 172;refine Sm (hcl _) ?_);go_ret;exact⟨rfl,Zb _ _⟩
 have e1:(k==1)=false:=by simpa using h1
 rw[if_neg h1];clear h1
 by_cases h2:k=2
 · have e2:(k==2)=true:=by simpa using h2
   rw[if_pos h2];clear h2
   go_enter func250,ntmps250
   go_wp2_with (go_at_call 172;refine Sm (hcl _) ?_);go_ret;exact⟨rfl,Zb _ _⟩
 have e2:(k==2)=false:=by simpa using h2
 rw[if_neg h2];clear h2
 by_cases h3:k=3
 · have e3:(k==3)=true:=by simpa using h3
   rw[if_pos h3];clear h3
   go_enter func250,ntmps250
   go_wp2_with (go_at_call 172;refine Sm (hcl _) ?_);go_ret;exact⟨rfl,Zb _ _⟩
 have e3:(k==3)=false:=by simpa using h3
 rw[if_neg h3];clear h3
 go_enter func250,ntmps250
 go_wp2_with (go_at_call 172;refine Sm (hcl _) ?_);go_ret;exact⟨rfl,Zb _ _⟩
theorem Us(w:World)(o o1 o2:Obj):Bw w (((w.alloc o).alloc o1).alloc o2):=Zc (Zc (Zb _ _) (Zb _ _)) (Zb _ _)
theorem well_spoil(a b c d:Int)(w:World):Calls prog 324 #[.agg #[],.agg #[Vi a,Vi b,Vi c,Vi d]] w (Rt w (.agg #[Vi a,Vi b,Vi c,Vi d])):=by
 go_enter func324,ntmps324
 go_wp2;exact bodyPost_ret (v:=.agg #[Vi a,Vi b,Vi c,Vi d]) (by simp[results,results324,go_sem]) rfl ⟨rfl,Us _ _ _ _⟩
theorem stuck_spoil(x:Int)(a b c d:Int)(w:World):Calls prog 325 #[.agg #[Vi x],.agg #[Vi a,Vi b,Vi c,Vi d]] w (Rt w (.agg #[Vi a,Vi b,Vi c,Vi x])):=by
 go_enter func325,ntmps325
 go_wp2;exact bodyPost_ret (v:=.agg #[Vi a,Vi b,Vi c,Vi x]) (by simp[results,results325,go_sem]) rfl ⟨rfl,Us _ _ _ _⟩
theorem mark_spoil(a b c d:Int)(w:World):Calls prog 327 #[.agg #[],.agg #[Vi a,Vi b,Vi c,Vi d]] w (Rt w (.agg #[Vi a,Vi b,Vi 0,Vi d])):=by
 go_enter func327,ntmps327
 go_wp2;exact bodyPost_ret (v:=.agg #[Vi a,Vi b,Vi 0,Vi d]) (by simp[results,results327,go_sem]) rfl ⟨rfl,Us _ _ _ _⟩
theorem shift_spoil(x:Int)(hx:-262143≤x∧x≤262143)(a b c d:Int)(hd:-262144≤d∧d≤262143)(w:World):Calls prog 326 #[.agg #[Vi x],.agg #[Vi a,Vi b,Vi c,Vi d]] w (Rt w (.agg #[Vi a,Vi b,Vi c,Vi (cW (d+x))])):=by
 obtain⟨x0,x1⟩:=hx;obtain⟨d0,d1⟩:=hd;have hh:∀u,Calls prog 193 #[Vi (d+x)] u (Re u (Vi (cW (d+x)))):=fun u=>wHold_any (d+x) u;generalize cW (d+x)=z at*
 go_enter func326,ntmps326
 go_wp2_with (go_at_call 193;refine Sm (hh _) ?_);exact bodyPost_ret (v:=.agg #[Vi a,Vi b,Vi c,Vi z]) (by simp[results,results326,go_sem]) rfl ⟨rfl,Us _ _ _ _⟩
theorem infoOf(t:TypeId)(n:Nat)(h:(prog.info? t).map (·.size)=some n):∃i,prog.info? t=some i:=by
 cases hq:prog.info? t with
 |none=>rw[hq] at h;cases h
 |some i=>exact⟨i,rfl⟩
end Go.Proofs.YtnfdfiholcelaaaGreatDoor
