import Derived.OwnWalk
import Derived.Test.YtnepnnkdgejheaaGreatDoorKp26
set_option maxRecDepth 100000
set_option maxHeartbeats 20000000
namespace Go.Proofs.YtnepnnkdgejheaaGreatDoor
open Go.RowKit Plain Tryz
variable {B K V j n:Nat}{cs:List Value}{u:V6}{v:Value}
def StH(u:V6)(B:Nat)(h:List Value):Prop:=u.heap[B]?=some (.cells h.toArray 110 (0,0))
theorem StH.lt(h:StH u B cs):B<u.heap.size:=(Array.getElem?_eq_some_iff.1 h).1
theorem StH.lq{u':V6}(h:StH u B cs)(y:Bw u u'):StH u' B cs:=(y.block B h.lt).trans h
theorem StH.cell(h:StH u B cs)(y:cs[j]?=some v):u.cell? (Ad B j)=some v/\u.frozen? (Ad B j)=false:=by
 unfold StH at h
 constructor
 . simp only[World.cell?,h];simp only[Option.isSome_none,Bool.false_eq_true,if_false]
   simpa using y
 . simp[World.frozen?,h]
theorem StH.range(h:StH u B cs):u.rangeAt B 0 cs:=fun j v y=>by rw[Nat.zero_add];exact(h.cell y).1
theorem StH.there(h:StH u B cs)(hn:n=cs.length):u.there B 0 n:=fun j y=>by
 subst hn;have:=h.cell (List.getElem?_eq_getElem y);rw[Nat.zero_add];exact⟨by rw[this.1];rfl,this.2⟩
theorem StH.set(h:StH u B cs)(j:Nat)(v:Value):StH (u.setCell (Ad B j) v) B (cs.set j v):=by
 unfold StH at h|-
 rw[heap_setCell_same u B j cs.toArray 110 v h]
 simp
theorem StH.far(h:StH u B cs)(y:B≠V)(j:Nat)(v:Value):StH (u.setCell (Ad V j) v) B cs:=(heap_setCell_other u ⟨V,j,none⟩ B v y).trans h
theorem CrH.far(h:CrH u B cs)(y:B≠V)(j:Nat)(v:Value):CrH (u.setCell (Ad V j) v) B cs:=(heap_setCell_other u ⟨V,j,none⟩ B v y).trans h
theorem ZS.far{a:V8}(h:ZS u a n)(m:∀b off,a=some (Ad b off)->b≠V):ZS (u.setCell (Ad V j) v) a n:=by
 rcases h with h|⟨b,off,h,hc⟩
 . exact .inl h
 . have f:∀o y,Kc u b o y->(u.setCell (Ad V j) v).cell? (Ad b o)=some y:=fun o y hy=>(World.cell?_setCell_other _ _ _ _ (fun e=>m b off h (congrArg Addr.block e).symm)).trans hy;exact .inr ⟨b,off,h,fun k hk=>⟨f _ _ (hc k hk).1,f _ _ (hc k hk).2.1,f _ _ (hc k hk).2.2⟩⟩
theorem Yj:(prog.info? 110).map (·.size)=some 30:=by kernel_rfl
theorem Mm{ops:Array Oper}{rest:List Oper}{op:Oper}{a:Act}{w:V6}{Q:Exit->Act->World->Prop}{c c':Array Value}(x y:Operand)(ha:op.guard=none)(ho:op.op=.store 110 x y)(hx:a.eval x=Ve w.heap.size 0)(hy:a.eval y=.agg c')(hs:c'.size=30)(hc:c.size=c'.size)(h1:c'.all (·.oneCell')=true)(h:wpList prog ops Q rest (a.put op.dst undef) (w.alloc (.cells c' 110))):wpList prog ops Q (op::rest) a (w.alloc (.cells c 110)):=
 wpList_plain ha fun _ hK=>by
  unfold Oper.wp execOp
  simp only[ho,hx,hy,Sem.run_bind,Sem.run_pure,Result.andThen_ok,run_storeAt_new w 110 c c' (by rw[Yj,hs]) hc h1];exact hK _ _ h
theorem Jam:(prog.info? 169).map (fun i=>(i.zero,i.size,i.bytes))=some (some (.agg #[Vi 0,Vi 0,.bool false]),3,24):=by kernel_rfl
theorem Nb(n:Nat)(w:V6)(hn:n<=9:=by omega):(Instr.makeSlice 104 (Vi (n:Int)) (Vi (n:Int))).run prog w=.ok (Vf w.heap.size 0 n n) (w.alloc (.cells (madeCells #[Vi 0,Vi 0,.bool false] (n*3)) 169)):=by
 cases hh:prog.info? 169 with
 |none=>have h:=Jam;rw[hh] at h;cases h
 |some i0=>
  have h:=Jam;rw[hh] at h;simp only[Option.map_some,Option.some.injEq,Prod.mk.injEq] at h;have g:=run_make (P:=prog) (w:=w) 104 169 i0 (.agg #[Vi 0,Vi 0,.bool false]) underlying104 hh h.1 .i64 .i64 (n:Int) (n:Int) (by omega) (by omega) (by rw[h.2.2];omega) (by omega);rw[h.2.1,Int.toNat_natCast] at g;exact g
theorem Jk9(n k j:Nat)(hk:k<n)(y:j<3):(madeCells #[Vi 0,Vi 0,.bool false] (n*3))[k*3+j]?=(#[Vi 0,Vi 0,.bool false]:Array Value)[j]?:=by
 have h:k*3+j<n*3:=by omega
 unfold madeCells
 rw[Array.getElem?_map,Array.getElem?_eq_getElem (by simpa using h)];simp only[Array.getElem_range,Option.map_some]
 have e:(k*3+j)%3=j:=by omega
 show some ((#[Vi 0,Vi 0,.bool false]:Array Value)[(k*3+j)%3]!)=_
 rw[e]
 rcases Qth j with rfl|rfl|rfl<;>rfl
theorem IA(n:Nat)(w:V6):ZS (w.alloc (.cells (madeCells #[Vi 0,Vi 0,.bool false] (n*3)) 169)) (some (Ad w.heap.size 0)) n:=by
 refine .inr ⟨w.heap.size,0,rfl,fun k hk=>?_⟩;have h:=World.alloc_heap_new w (.cells (madeCells #[Vi 0,Vi 0,.bool false] (n*3)) 169)
 have f:∀j v,j<3->(#[Vi 0,Vi 0,.bool false]:Array Value)[j]?=some v->(w.alloc (.cells (madeCells #[Vi 0,Vi 0,.bool false] (n*3)) 169)).cell? (Ad w.heap.size (0+k*3+j))=some v:=fun j v y m=>by
  show World.cell? _ _=_
  simp only[World.cell?,h,Nat.zero_add];simp only[Option.isSome_none,Bool.false_eq_true,if_false];rw[Jk9 n k j hk y];exact m
 exact⟨f 0 _ (by omega) rfl,f 1 _ (by omega) rfl,f 2 _ (by omega) rfl⟩
theorem Jla(tmps:Array Value)(U:V6)(Y:Nat)(h:List Value)(h2:tmps.getD 2 undef=Ve Y 0)(y:U.rangeAt Y 0 h)(hn:h.length=30):
 (results Tryz.f46 tmps).run prog U=.ok (.agg h.toArray) U:=by
 have h3:tmps[2]?.getD undef=Ve Y 0:=by simpa using h2
 simp[results,results46,h3,asAddr,run_loadVar_mid U Y 0 110 h _ y underlying110 rfl (by rw[Yj,hn])]
theorem Wv{b:Nat}{w0:V6}:∀(y:List Value) (o:Nat) (w:V6),Below K w0 w->K<=b->Below K w0 (w.setCells b o y)
 |[],_,_,h,_=>h
 |v::r,o,w,h,hb=>Wv r (o+1) (w.setCell ⟨b,o,none⟩ v) (h.setCell (by simpa using hb) v) hb
theorem Ny{a:V8}(y:∀b off,a=some (Ad b off)->b≠V):∀(j:List Value) (o:Nat) (w:V6),ZS w a n->ZS (w.setCells V o j) a n
 |[],_,_,h=>h
 |v::r,o,w,h=>Ny y r (o+1) (w.setCell ⟨V,o,none⟩ v) (h.far y)
theorem Jdf(w:V6):Va 8 #[.slice none 0 0,.slice none 0 0] w (Rt w (.bool true)):=by
 go_enter func8,ntmps8
 go_wp2
 go_loopw [5] (fun i wr=>i=Vi 0/\Bw w wr) (fun _ _=>0)
 case atStart=>exact⟨rfl,Below.refl _ _⟩
 case round=>
  obtain⟨rfl,h⟩:=hrel;go_wp2;go_ret;exact⟨rfl,h⟩
theorem Jdg(g h c e:Nat)(l:List V7)(hl:l.length<=100000)(w:V6)(h1:∀j x,l[j]?=some x->Kc w g j (.string x))(h2:∀j x,l[j]?=some x->Kc w h j (.string x)):
 Va 8 #[Vf g 0 l.length c,Vf h 0 l.length e] w (Rt w (.bool true)):=by
 have m:=Za h1;have HW:=Za h2;clear h1 h2
 go_enter func8,ntmps8
 go_wp2
 go_loopw [5] (fun i wr=>∃k:Nat,k<=l.length/\i=Vi k/\Bw w wr) (fun i _=>l.length-(intOf i).toNat)
 case atStart=>exact⟨0,Nat.zero_le _,rfl,Below.refl _ _⟩
 case round=>
  obtain⟨k,hk,rfl,y⟩:=hrel
  by_cases hlt:k<l.length
  . obtain⟨x,hx⟩:∃x,l[k]?=some x:=⟨_,List.getElem?_eq_getElem hlt⟩;have d0:=cell_later y (m.o k x hx);have Z:=cell_later y (HW.o k x hx);have H:=Za y
    have Y:(0:Int)<=(k:Int):=by omega
    have X:(k:Int)<(l.length:Int):=by omega
    clear y hx;go_wp2;go_quiet (fail);go_wp2;go_roundw
    case rel=>exact⟨k+1,by omega,by go_num,Zc H.o (below_drewN (Below.refl _ _) _)⟩
    case measure=>simp[intOf];omega
  . have e:k=l.length:=by omega
    subst e;go_wp2;go_ret;exact⟨rfl,y⟩
abbrev nlS:V7:=⟨#[10]⟩
abbrev blS:V7:=⟨#[32]⟩
def spl(s sep:V7):List V7:=Lib.splitB sep 0 (Lib.countB s sep) s
def AR(s:V7):ByteArray:=⟨(Lib.trimSuffix s.data.toList nlS.data.toList).toArray⟩
theorem Jdh(s:V7)(hs:s.size<=100000){a:Addr}(w:V6)(y:GW K a w)(H:(AR s).size<=100000):
 Va 14 #[.string s] w fun e w'=>e=.returned (Vf w.heap.size 0 (Lib.countB (AR s) nlS+1) (Lib.countB (AR s) nlS+1))/\w'=w.alloc (.cells ((spl (AR s) nlS).map Value.string).toArray 9):=by
 obtain⟨m,j⟩:=y.ml;have h1:=Joj s nlS w (by omega);have h2:=O1 (AR s) nlS m w j;clear y j
 go_enter func14,ntmps14
 go_wp2_with (first
  |(go_at_call 37;refine h1.mono ?_;rintro e w' ⟨rfl,h⟩;have h:=h.symm;subst h)
  |(go_at_call 10;refine h2.mono ?_;rintro e w' ⟨rfl,rfl⟩))
 go_ret;exact⟨rfl,rfl⟩
theorem Ji4(R T J K a4 M N P D C ha E hc:Int)(p q:V8)(n m cn cm:Nat)(F I L A b4 B W b7 b8 b9 hd he hf:Int)(r s:V8)(n' m' dn dm:Nat)(c0 c1:Int)(h4:2<=a4/\a4<=4)(g4:2<=b4/\b4<=4)(w:V6):
 Va 46 #[.agg #[Vi R,Vi T,Vi J,Vi K,Vi a4,Vi M,Vi N,Vi P,Vi D,Vi C,Vi ha,Vi E,.slice p n cn,.slice q m cm,Vi hc,Vi F,Vi I,Vi L,Vi A,Vi b4,Vi B,Vi W,Vi b7,Vi b8,Vi b9,Vi hd,Vi he,.slice r n' dn,.slice s m' dm,Vi hf,Vi c0,Vi c1]] w fun e w'=>∃(Y X y h:Nat),((y:Int)=a4/\(h:Int)=b4)/\e=.returned (.agg (Qal Y y X h))/\ZS w' (some (Ad Y 0)) y/\ZS w' (some (Ad X 0)) h/\Bw w w':=by
 obtain⟨y,rfl⟩:∃k:Nat,a4=k:=⟨a4.toNat,by omega⟩;obtain⟨h,rfl⟩:∃k:Nat,b4=k:=⟨b4.toNat,by omega⟩;have hi:=Nb y;have hj:=Nb h;have Hi:Hd (CrH ((w.alloc (.cells (Qao R T J K M N P D C ha E hc F I L A B W b7 b8 b9 hd he hf c0 c1 y n cn m cm h n' dn m' dm p q r s) 41)).alloc (.cells Qaa 110)) w.heap.size [Vi R,Vi T,Vi J,Vi K,Vi (y:Int),Vi M,Vi N,Vi P,Vi D,Vi C,Vi ha,Vi E,.slice p n cn,.slice q m cm,Vi hc,Vi F,Vi I,Vi L,Vi A,Vi (h:Int),Vi B,Vi W,Vi b7,Vi b8,Vi b9,Vi hd,Vi he,.slice r n' dn,.slice s m' dm,Vi hf,Vi c0,Vi c1]):=Za (CrH.lq (World.alloc_heap_new w _) Vc)
 have Q:Hd (StH ((w.alloc (.cells (Qao R T J K M N P D C ha E hc F I L A B W b7 b8 b9 hd he hf c0 c1 y n cn m cm h n' dn m' dm p q r s) 41)).alloc (.cells Qaa 110)) (w.heap.size+1) Qag):=Za (by have:=World.alloc_heap_new (w.alloc (.cells (Qao R T J K M N P D C ha E hc F I L A B W b7 b8 b9 hd he hf c0 c1 y n cn m cm h n' dn m' dm p q r s) 41)) (.cells Qaa 110);rw[World.size_alloc] at this;exact this);have Hj:Hd (Bw w ((w.alloc (.cells (Qao R T J K M N P D C ha E hc F I L A B W b7 b8 b9 hd he hf c0 c1 y n cn m cm h n' dn m' dm p q r s) 41)).alloc (.cells Qaa 110))):=Za (Zc Vc Vc);clear h4 g4
 go_enter func46,ntmps46
 go_upto_region 1 with fail;generalize (w.alloc (.cells (Qao R T J K M N P D C ha E hc F I L A B W b7 b8 b9 hd he hf c0 c1 y n cn m cm h n' dn m' dm p q r s) 41)).alloc (.cells Qaa 110)=G at *;have Hb:=Za Q.o.lt;have HC:=Za (Hi.o.lq (Zb G (.cells Qaa 110)));have HR:=Za (Q.o.lq (Zb G (.cells Qaa 110)));have HS:Hd (StH (G.alloc (.cells Qaa 110)) G.heap.size Qag):=Za (World.alloc_heap_new G _);have HB:=Za (Zc Hj.o (Zb G (.cells Qaa 110)));clear Hi Q Hj
 go_upto_region 2 with(first
  |(refine Sq 110 _ _ rfl ?_;refine Mm (c':=Qaa) (.tmp 3) (.tmp 5) rfl rfl rfl rfl rfl rfl (Zm _ rfl) ?_))
 generalize G.alloc (.cells Qaa 110)=Z at *;generalize G.heap.size=O at*
 have kc4:Z.cell? (Ad w.heap.size 4)=some (Vi (y:Int)):=by have:=HC.o.range 4 _ rfl;rwa[Nat.zero_add] at this
 have q21:=((HS.o.lq (Zb Z (.cells (madeCells #[Vi 0,Vi 0,.bool false] (y*3)) 169))).cell (j:=21) rfl).1;have r21:=((HS.o.lq (Zb Z (.cells (madeCells #[Vi 0,Vi 0,.bool false] (y*3)) 169))).cell (j:=21) rfl).2;have Hc:=Za HS.o.lt;have Hk:=Za ((HC.o.lq (Zb Z (.cells (madeCells #[Vi 0,Vi 0,.bool false] (y*3)) 169))).far (V:=O) (by have:=Hb.o;omega) 21 (Vf Z.heap.size 0 y y));have Hf:=Za ((HR.o.lq (Zb Z (.cells (madeCells #[Vi 0,Vi 0,.bool false] (y*3)) 169))).far (V:=O) (by have:=Hb.o;omega) 21 (Vf Z.heap.size 0 y y));have Q:=Za ((HS.o.lq (Zb Z (.cells (madeCells #[Vi 0,Vi 0,.bool false] (y*3)) 169))).set 21 (Vf Z.heap.size 0 y y));have Hl:=Za ((Zc HB.o (Zb Z (.cells (madeCells #[Vi 0,Vi 0,.bool false] (y*3)) 169))).setCell (p:=⟨O,21,none⟩) (by have:=Hb.o;simp;omega) (Vf Z.heap.size 0 y y));have Hm:=Za ((IA y Z).far (V:=O) (j:=21) (v:=Vf Z.heap.size 0 y y) (by intro b off e;cases e;have:=Hc.o;omega));clear HC HR HS HB;go_wp2_with fail;refine wp_loop_rounds 3 ?_;rw[rounds_succ];go_wp2_with fail;generalize hg:(Z.alloc (.cells (madeCells #[Vi 0,Vi 0,.bool false] (y*3)) 169)).setCell (Ad O 21) (Vf Z.heap.size 0 y y)=H at *;clear hg kc4 q21 r21;have Hg:Hd (Z.heap.size≠O/\Z.heap.size≠w.heap.size+1):=Za ⟨by have:=Hc.o;omega,by have:=Hc.o;have:=Hb.o;omega⟩;generalize Z.heap.size=Y at *;have Q:Hd (StH H O (Qbf Y y)):=Q
 have kc4:H.cell? (Ad w.heap.size 19)=some (Vi (h:Int)):=by have:=Hk.o.range 19 _ rfl;rwa[Nat.zero_add] at this
 have q22:=((Q.o.lq (Zb H (.cells (madeCells #[Vi 0,Vi 0,.bool false] (h*3)) 169))).cell (j:=22) rfl).1;have r22:=((Q.o.lq (Zb H (.cells (madeCells #[Vi 0,Vi 0,.bool false] (h*3)) 169))).cell (j:=22) rfl).2;have Hr:=Za Q.o.lt;have Hs:=Za Hf.o.lt;have Hh:=Za ((Hf.o.lq (Zb H (.cells (madeCells #[Vi 0,Vi 0,.bool false] (h*3)) 169))).far (V:=O) (by have:=Hb.o;omega) 22 (Vf H.heap.size 0 h h));have Ht:Hd (StH ((H.alloc (.cells (madeCells #[Vi 0,Vi 0,.bool false] (h*3)) 169)).setCell (Ad O 22) (Vf H.heap.size 0 h h)) O [Vi 0,Vi 0,Vi 0,.bool false,.bool false,.bool false,Vi 0,Vi 0,Vi 0,Vi 0,.bool false,.bool false,.bool false,Vi 0,Vi 0,Vi 0,Vi 0,.bool false,.bool false,.bool false,Vi 0,Vf Y 0 y y,Vf H.heap.size 0 h h,Vi 0,Vi 0,Vi 0,Vi 0,Vi 0,Vi 0,Vi 0]):=Za ((Q.o.lq (Zb H (.cells (madeCells #[Vi 0,Vi 0,.bool false] (h*3)) 169))).set 22 (Vf H.heap.size 0 h h));have Hn:=Za ((Zc Hl.o (Zb H (.cells (madeCells #[Vi 0,Vi 0,.bool false] (h*3)) 169))).setCell (p:=⟨O,22,none⟩) (by have:=Hb.o;simp;omega) (Vf H.heap.size 0 h h));have Ho:=Za ((IA h H).far (V:=O) (j:=22) (v:=Vf H.heap.size 0 h h) (by intro b off e;cases e;have:=Hr.o;omega));have Hp:=Za ((Hm.o.lq (Zb H (.cells (madeCells #[Vi 0,Vi 0,.bool false] (h*3)) 169))).far (V:=O) (j:=22) (v:=Vf H.heap.size 0 h h) (by intro b off e;cases e;exact Hg.o.1));clear Hk Hf Q Hl Hm;rw[rounds_succ];go_wp2_with fail;generalize hh:(H.alloc (.cells (madeCells #[Vi 0,Vi 0,.bool false] (h*3)) 169)).setCell (Ad O 22) (Vf H.heap.size 0 h h)=w3 at *;clear hh kc4 q22 r22;have Hq:Hd (H.heap.size≠w.heap.size+1):=Za (by have:=Hs.o;omega);generalize H.heap.size=X at*
 have HU:Hd ((w3.setCells (w.heap.size+1) 0 (Qad Y y X h)).rangeAt (w.heap.size+1) 0 (Qad Y y X h)):=Za (World.rangeAt_setCells_same _ _ _ _ (Hh.o.there rfl));have Hu:=Za (Ny (V:=w.heap.size+1) (by intro b off e;cases e;exact Hg.o.2) (Qad Y y X h) 0 w3 Hp.o);have Hv:=Za (Ny (V:=w.heap.size+1) (by intro b off e;cases e;exact Hq.o) (Qad Y y X h) 0 w3 Ho.o);have Hw:=Za (Wv (Qad Y y X h) 0 w3 Hn.o (b:=w.heap.size+1) (by omega));have Hx:Hd (w3.there (w.heap.size+1) 0 30):=Za (Hh.o.there rfl);clear Hn Ho Hp Hh Hg Hq;rw[rounds_succ]
 go_wp2_with (first
  |(refine Lm 110 (.tmp 3) rfl O 0 (Qad Y y X h) Ht.o.range underlying110 Yj ?_)
  |(refine Sq 110 _ _ rfl ?_;refine wpList_store_mid rfl 110 (.tmp 2) (.tmp 19) rfl (w.heap.size+1) 0 (Qal Y y X h) rfl rfl Hx.o Yj (Zm _ rfl) ?_))
 generalize hU:w3.setCells (w.heap.size+1) 0 _=U at *;clear hU;refine bodyPost_ret (v:=.agg (Qal Y y X h)) (Jla _ U (w.heap.size+1) (Qad Y y X h) rfl HU.o rfl) rfl ⟨Y,X,y,h,⟨rfl,rfl⟩,rfl,Hu.o,Hv.o,Hw.o⟩
theorem Ji5(tmps:Array Value)(U:V6)(Y:Nat)(h:List Value)(x:Value)(h2:tmps.getD 2 undef=Ve Y 0)(h5:tmps.getD 3 undef=x)(y:U.rangeAt Y 0 h)(hn:h.length=30):
 (results Tryz.f108 tmps).run prog U=.ok (.tuple #[.agg h.toArray,x]) U:=by
 have h3:tmps[2]?.getD undef=Ve Y 0:=by simpa using h2
 have h4:tmps[3]?.getD undef=x:=by simpa using h5
 simp[results,results108,h3,h4,asAddr,run_loadVar_mid U Y 0 110 h _ y underlying110 rfl (by rw[Yj,hn])]
theorem Ji6(D C E F a4 I L A B W hd he hf:Int)(p q:V8)(al zl:V9)(cn cm:Nat)(Z Y X Q b4 G R T J K ha M hc:Int)(r s:V8)(m H:V9)(N P:Nat)(c0 c1:Int)(h4:2<=a4/\a4<=4)(g4:2<=b4/\b4<=4)(w:V6)(hg:GV w)(hh:al.length<=9223372036854775807/\zl.length<=9223372036854775807/\al.length<=cn/\Lst w p al/\Lst w q zl)(hi:m.length<=9223372036854775807/\H.length<=9223372036854775807/\m.length<=N/\Lst w r m/\Lst w s H)(hE:AA (eCr D C E F a4 I L A B W hd he hf al zl Z Y X Q b4 G R T J K ha M hc m H c0 c1) 13=0):
 Va 108 #[.agg (Qaf D C E F a4 I L A B W hd he hf Z Y X Q b4 G R T J K ha M hc c0 c1 p q r s al zl m H cn cm N P)] w fun e w'=>∃(G0 G1 y h:Nat),((y:Int)=a4/\(h:Int)=b4)/\e=.returned (.tuple #[.agg (Qal G0 y G1 h),.nilIface])/\ZS w' (some (Ad G0 0)) y/\ZS w' (some (Ad G1 0)) h/\Bw w w':=by
 obtain⟨y,rfl⟩:∃k:Nat,a4=k:=⟨a4.toNat,by omega⟩;obtain⟨h,rfl⟩:∃k:Nat,b4=k:=⟨b4.toNat,by omega⟩;have hn:=Nb y;have ho:=Nb h;clear h4 g4;have Hf:Hd (CrH ((w.alloc (.cells (Qak D C E F I L A B W hd he hf Z Y X Q G R T J K ha M hc c0 c1 y cn cm h N P p q r s al zl m H) 41)).alloc (.cells Qaa 110)) w.heap.size [Vi D,Vi C,Vi E,Vi F,Vi (y:Int),Vi I,Vi L,Vi A,Vi B,Vi W,Vi hd,Vi he,.slice p al.length cn,.slice q zl.length cm,Vi hf,Vi Z,Vi Y,Vi X,Vi Q,Vi (h:Int),Vi G,Vi R,Vi T,Vi J,Vi K,Vi ha,Vi M,.slice r m.length N,.slice s H.length P,Vi hc,Vi c0,Vi c1]):=Za (CrH.lq (World.alloc_heap_new w _) Vc)
 have Ha:Hd (StH ((w.alloc (.cells (Qak D C E F I L A B W hd he hf Z Y X Q G R T J K ha M hc c0 c1 y cn cm h N P p q r s al zl m H) 41)).alloc (.cells Qaa 110)) (w.heap.size+1) Qag):=Za (by have:=World.alloc_heap_new (w.alloc (.cells (Qak D C E F I L A B W hd he hf Z Y X Q G R T J K ha M hc c0 c1 y cn cm h N P p q r s al zl m H) 41)) (.cells Qaa 110);rw[World.size_alloc] at this;exact this);have Hb:Hd (Bw w ((w.alloc (.cells (Qak D C E F I L A B W hd he hf Z Y X Q G R T J K ha M hc c0 c1 y cn cm h N P p q r s al zl m H) 41)).alloc (.cells Qaa 110))):=Za (Zc Vc Vc)
 have hk:=Zjb D C E F (y:Int) I L A B W hd he hf p q al zl cn cm Z Y X Q (h:Int) G R T J K ha M hc r s m H N P c0 c1 ((w.alloc (.cells (Qak D C E F I L A B W hd he hf Z Y X Q G R T J K ha M hc c0 c1 y cn cm h N P p q r s al zl m H) 41)).alloc (.cells Qaa 110)) (hg.lq Hb.o) ⟨hh.1,hh.2.1,hh.2.2.1,hh.2.2.2.1.lq Hb.o,hh.2.2.2.2.lq Hb.o⟩ ⟨hi.1,hi.2.1,hi.2.2.1,hi.2.2.2.1.lq Hb.o,hi.2.2.2.2.lq Hb.o⟩;clear hg hh hi;rw[hE,Z0] at hk;clear hE;have hp:=Jnx (Vi D) (Vi C) (Vi E) (Vi F) (Vi (y:Int)) (Vi I) (Vi L) (Vi A) (Vi B) (Vi W) (Vi hd) (Vi he) (.slice p al.length cn) (.slice q zl.length cm) (Vi hf) (Vi Z) (Vi Y) (Vi X) (Vi Q) (Vi (h:Int)) (Vi G) (Vi R) (Vi T) (Vi J) (Vi K) (Vi ha) (Vi M) (.slice r m.length N) (.slice s H.length P) (Vi hc);have hq:=Jny (Vi D) (Vi C) (Vi E) (Vi F) (Vi (y:Int)) (Vi I) (Vi L) (Vi A) (Vi B) (Vi W) (Vi hd) (Vi he) (.slice p al.length cn) (.slice q zl.length cm) (Vi hf) (Vi Z) (Vi Y) (Vi X) (Vi Q) (Vi (h:Int)) (Vi G) (Vi R) (Vi T) (Vi J) (Vi K) (Vi ha) (Vi M) (.slice r m.length N) (.slice s H.length P) (Vi hc)
 go_enter func108,ntmps108
 go_upto_region 1 with fail;generalize (w.alloc (.cells (Qak D C E F I L A B W hd he hf Z Y X Q G R T J K ha M hc c0 c1 y cn cm h N P p q r s al zl m H) 41)).alloc (.cells Qaa 110)=w0 at*
 go_upto_region 2 with(first
  |(refine Lm 41 (.tmp 1) rfl w.heap.size 0 [Vi D,Vi C,Vi E,Vi F,Vi (y:Int),Vi I,Vi L,Vi A,Vi B,Vi W,Vi hd,Vi he,.slice p al.length cn,.slice q zl.length cm,Vi hf,Vi Z,Vi Y,Vi X,Vi Q,Vi (h:Int),Vi G,Vi R,Vi T,Vi J,Vi K,Vi ha,Vi M,.slice r m.length N,.slice s H.length P,Vi hc,Vi c0,Vi c1] Hf.o.range underlying41 Zr ?_)
  |(go_at_call 56;refine hk.mono ?_;rintro e w1 ⟨rfl,hj⟩))
 have Hn:=Za (Hf.o.lq hj);have Hg:=Za (Ha.o.lq hj);have Ho:=Za (Zc Hb.o hj);clear Hf Ha Hb hj hk;have Hc:=Za Hg.o.lt;have HC:=Za (Hn.o.lq (Zb w1 (.cells Qaa 110)));have HR:=Za (Hg.o.lq (Zb w1 (.cells Qaa 110)));have HS:Hd (StH (w1.alloc (.cells Qaa 110)) w1.heap.size Qag):=Za (World.alloc_heap_new w1 _);have HB:=Za (Zc Ho.o (Zb w1 (.cells Qaa 110)));clear Hn Hg Ho
 go_upto_region 5 with fail;generalize w1.alloc (.cells Qaa 110)=w2 at *;generalize w1.heap.size=O at *;have HX:Hd (w2.rangeAt w.heap.size 0 [Vi D,Vi C,Vi E,Vi F,Vi (y:Int),Vi I,Vi L,Vi A,Vi B,Vi W,Vi hd,Vi he,.slice p al.length cn,.slice q zl.length cm,Vi hf,Vi Z,Vi Y,Vi X,Vi Q,Vi (h:Int),Vi G,Vi R,Vi T,Vi J,Vi K,Vi ha,Vi M,.slice r m.length N,.slice s H.length P,Vi hc]):=Za (Ml (n:=30) HC.o.range 0);have Hh:=Za HS.o.lt
 go_wp2_with (first
  |(refine Lm 39 (.tmp 14) rfl w.heap.size 0 [Vi D,Vi C,Vi E,Vi F,Vi (y:Int),Vi I,Vi L,Vi A,Vi B,Vi W,Vi hd,Vi he,.slice p al.length cn,.slice q zl.length cm,Vi hf,Vi Z,Vi Y,Vi X,Vi Q,Vi (h:Int),Vi G,Vi R,Vi T,Vi J,Vi K,Vi ha,Vi M,.slice r m.length N,.slice s H.length P,Vi hc] HX.o underlying39 JN ?_))
 clear HX HC;have q21:=(((HS.o.lq (Zb w2 (.cells (Qau D C E F I L A B W hd he hf y cn cm p q al zl) 38))).lq (Zb _ (.cells (madeCells #[Vi 0,Vi 0,.bool false] (y*3)) 169))).cell (j:=21) rfl).1;have r21:=(((HS.o.lq (Zb w2 (.cells (Qau D C E F I L A B W hd he hf y cn cm p q al zl) 38))).lq (Zb _ (.cells (madeCells #[Vi 0,Vi 0,.bool false] (y*3)) 169))).cell (j:=21) rfl).2;have Hi:=Za (((HR.o.lq (Zb w2 (.cells (Qau D C E F I L A B W hd he hf y cn cm p q al zl) 38))).lq (Zb _ (.cells (madeCells #[Vi 0,Vi 0,.bool false] (y*3)) 169))).far (V:=O) (by have:=Hc.o;omega) 21 (Vf (w2.heap.size+1) 0 y y));have Ha:=Za (((HS.o.lq (Zb w2 (.cells (Qau D C E F I L A B W hd he hf y cn cm p q al zl) 38))).lq (Zb _ (.cells (madeCells #[Vi 0,Vi 0,.bool false] (y*3)) 169))).set 21 (Vf (w2.heap.size+1) 0 y y));have Hp:=Za ((Zc (Zc HB.o (Zb w2 (.cells (Qau D C E F I L A B W hd he hf y cn cm p q al zl) 38))) (Zb _ (.cells (madeCells #[Vi 0,Vi 0,.bool false] (y*3)) 169))).setCell (p:=⟨O,21,none⟩) (by have:=Hc.o;simp;omega) (Vf (w2.heap.size+1) 0 y y));have Hj:=Za ((IA y (w2.alloc (.cells (Qau D C E F I L A B W hd he hf y cn cm p q al zl) 38))).far (V:=O) (j:=21) (v:=Vf (w2.heap.size+1) 0 y y) (by intro b off e;cases e;have:=Hh.o;simp;omega));rw[World.size_alloc] at Hj;clear HR HS HB;refine wp_loop_rounds 3 ?_;rw[rounds_succ];go_wp2_with fail
 generalize hl:((w2.alloc (.cells (Qau D C E F I L A B W hd he hf y cn cm p q al zl) 38)).alloc (.cells (madeCells #[Vi 0,Vi 0,.bool false] (y*3)) 169)).setCell (Ad O 21) (Vf (w2.heap.size+1) 0 y y)=w3 at *;clear hl q21 r21;have Hk:Hd (w2.heap.size+1≠O/\w2.heap.size+1≠w.heap.size+1):=Za ⟨by have:=Hh.o;omega,by have:=Hh.o;have:=Hc.o;omega⟩;generalize w2.heap.size+1=G0 at *;have Ha:Hd (StH w3 O (Qbf G0 y)):=Ha;have Ht:=Za Ha.o.lt;have Hu:=Za Hi.o.lt;have q22:=(((Ha.o.lq (Zb w3 (.cells (Qap Z Y X Q G R T J K ha M hc h N P r s m H) 38))).lq (Zb _ (.cells (madeCells #[Vi 0,Vi 0,.bool false] (h*3)) 169))).cell (j:=22) rfl).1;have r22:=(((Ha.o.lq (Zb w3 (.cells (Qap Z Y X Q G R T J K ha M hc h N P r s m H) 38))).lq (Zb _ (.cells (madeCells #[Vi 0,Vi 0,.bool false] (h*3)) 169))).cell (j:=22) rfl).2;have Hl:=Za (((Hi.o.lq (Zb w3 (.cells (Qap Z Y X Q G R T J K ha M hc h N P r s m H) 38))).lq (Zb _ (.cells (madeCells #[Vi 0,Vi 0,.bool false] (h*3)) 169))).far (V:=O) (by have:=Hc.o;omega) 22 (Vf (w3.heap.size+1) 0 h h))
 have Hv:Hd (StH (((w3.alloc (.cells (Qap Z Y X Q G R T J K ha M hc h N P r s m H) 38)).alloc (.cells (madeCells #[Vi 0,Vi 0,.bool false] (h*3)) 169)).setCell (Ad O 22) (Vf (w3.heap.size+1) 0 h h)) O [Vi 0,Vi 0,Vi 0,.bool false,.bool false,.bool false,Vi 0,Vi 0,Vi 0,Vi 0,.bool false,.bool false,.bool false,Vi 0,Vi 0,Vi 0,Vi 0,.bool false,.bool false,.bool false,Vi 0,Vf G0 0 y y,Vf (w3.heap.size+1) 0 h h,Vi 0,Vi 0,Vi 0,Vi 0,Vi 0,Vi 0,Vi 0]):=Za (((Ha.o.lq (Zb w3 (.cells (Qap Z Y X Q G R T J K ha M hc h N P r s m H) 38))).lq (Zb _ (.cells (madeCells #[Vi 0,Vi 0,.bool false] (h*3)) 169))).set 22 (Vf (w3.heap.size+1) 0 h h));have Hq:=Za ((Zc (Zc Hp.o (Zb w3 (.cells (Qap Z Y X Q G R T J K ha M hc h N P r s m H) 38))) (Zb _ (.cells (madeCells #[Vi 0,Vi 0,.bool false] (h*3)) 169))).setCell (p:=⟨O,22,none⟩) (by have:=Hc.o;simp;omega) (Vf (w3.heap.size+1) 0 h h));have Hm:=Za ((IA h (w3.alloc (.cells (Qap Z Y X Q G R T J K ha M hc h N P r s m H) 38))).far (V:=O) (j:=22) (v:=Vf (w3.heap.size+1) 0 h h) (by intro b off e;cases e;have:=Ht.o;simp;omega));rw[World.size_alloc] at Hm;have Hr:=Za (((Hj.o.lq (Zb w3 (.cells (Qap Z Y X Q G R T J K ha M hc h N P r s m H) 38))).lq (Zb _ (.cells (madeCells #[Vi 0,Vi 0,.bool false] (h*3)) 169))).far (V:=O) (j:=22) (v:=Vf (w3.heap.size+1) 0 h h) (by intro b off e;cases e;exact Hk.o.1));clear Hi Ha Hp Hj;rw[rounds_succ];go_wp2_with fail
 generalize hm:((w3.alloc (.cells (Qap Z Y X Q G R T J K ha M hc h N P r s m H) 38)).alloc (.cells (madeCells #[Vi 0,Vi 0,.bool false] (h*3)) 169)).setCell (Ad O 22) (Vf (w3.heap.size+1) 0 h h)=w4 at *;clear hm q22 r22;have Hs:Hd (w3.heap.size+1≠w.heap.size+1):=Za (by have:=Hu.o;omega);generalize w3.heap.size+1=G1 at *;have HU:Hd ((w4.setCells (w.heap.size+1) 0 (Qad G0 y G1 h)).rangeAt (w.heap.size+1) 0 (Qad G0 y G1 h)):=Za (World.rangeAt_setCells_same _ _ _ _ (Hl.o.there rfl));have Hw:=Za (Ny (V:=w.heap.size+1) (by intro b off e;cases e;exact Hk.o.2) (Qad G0 y G1 h) 0 w4 Hr.o);have Hx:=Za (Ny (V:=w.heap.size+1) (by intro b off e;cases e;exact Hs.o) (Qad G0 y G1 h) 0 w4 Hm.o);have Hy:=Za (Wv (Qad G0 y G1 h) 0 w4 Hq.o (b:=w.heap.size+1) (by omega));have Hz:Hd (w4.there (w.heap.size+1) 0 30):=Za (Hl.o.there rfl)
 clear Hq Hm Hr Hl Hk Hs;rw[rounds_succ]
 go_wp2_with (first
  |(refine Lm 110 (.tmp 5) rfl O 0 (Qad G0 y G1 h) Hv.o.range underlying110 Yj ?_)
  |(refine Sq 110 _ _ rfl ?_;refine wpList_store_mid rfl 110 (.tmp 2) (.tmp 27) rfl (w.heap.size+1) 0 (Qal G0 y G1 h) rfl rfl Hz.o Yj (Zm _ rfl) ?_))
 generalize hU:w4.setCells (w.heap.size+1) 0 _=U at *;clear hU;refine bodyPost_ret (v:=.tuple #[.agg (Qal G0 y G1 h),.nilIface]) (Ji5 _ U (w.heap.size+1) (Qad G0 y G1 h) _ rfl rfl HU.o rfl) rfl ⟨G0,G1,y,h,⟨rfl,rfl⟩,rfl,Hw.o,Hx.o,Hy.o⟩
end Go.Proofs.YtnepnnkdgejheaaGreatDoor
