import Derived.Sort.OwnSorted
import Derived.Test.YtnfdfiholcelaaaGreatDoorJp03
import Derived.Test.YtnfdfiholcelaaaGreatDoorJp06
import Derived.Test.YtnfdfiholcelaaaGreatDoorJp14
set_option maxRecDepth 100000
set_option maxHeartbeats 20000000
namespace Go.Proofs.YtnfdfiholcelaaaGreatDoor
open Go.RowKit Go.Sort Tryz
variable {u w:World}
def Gro(w u:World):Prop:=∃q os,u=grow (w.drewN q) os
theorem Gro.refl(w:World):Gro w w:=⟨0,#[],by rw[grow_empty];rfl⟩
theorem Gro.trans{v:World}(h:Gro w u)(k:Gro u v):Gro w v:=by
 obtain⟨q,os,rfl⟩:=h;obtain⟨q',os',rfl⟩:=k;refine⟨q+q',os++os',?_⟩;rw[show(grow (w.drewN q) os).drewN q'=grow ((w.drewN q).drewN q') os from rfl,grow_grow];rw[show(w.drewN q).drewN q'=w.drewN (q+q') by simp[World.drewN,Nat.add_assoc]]
theorem Gro.alloc(h:Gro w u)(o:Obj):Gro w (u.alloc o):=h.trans ⟨0,#[o],by rw[alloc_eq_grow];rfl⟩
theorem Gro.drew(h:Gro w u):Gro w u.drew:=h.trans ⟨1,#[],by rw[grow_empty];rfl⟩
theorem Gro.below(h:Gro w u):Bw w u:=by
 obtain⟨q,os,rfl⟩:=h;exact below_grown_sl _ _ _ _ (Nat.le_refl _)
end Go.Proofs.YtnfdfiholcelaaaGreatDoor
namespace Go.Proofs.YtnfdfiholcelaaaGreatDoor
open Go.RowKit Go.Sort Go.Shelf Plain Tryz
variable {cur:Array Value}{e:TypeId}{g n:Nat}{w:World}
theorem compare_any(x y:Int)(w:World):Calls prog 206 #[Vi x,Vi y] w (Re w (Vi (cmpI x y))):=by
 unfold cmpI
 by_cases h1:x<y
 · rw[if_pos h1]
   go_enter func206,ntmps206
   go_wp2_with (go_at_call 238;refine(nan_any _ _).mono ?_;rintro e w' ⟨rfl,rfl⟩);go_ret;exact⟨rfl,rfl⟩
 · rw[if_neg h1]
   by_cases h2:y<x
   · rw[if_pos h2]
     go_enter func206,ntmps206
     go_wp2_with (go_at_call 238;refine(nan_any _ _).mono ?_;rintro e w' ⟨rfl,rfl⟩);go_ret;exact⟨rfl,rfl⟩
   · rw[if_neg h2]
     go_enter func206,ntmps206
     go_wp2_with (go_at_call 238;refine(nan_any _ _).mono ?_;rintro e w' ⟨rfl,rfl⟩);go_ret;exact⟨rfl,rfl⟩
theorem or_two(b:Nat)(x y:Int)(w:World)(c0:Kc w b 0 (Vi x))(c1:Kc w b 1 (Vi y)):
 Calls prog 205 #[.slice (some (Ad b 0)) 2 2] w (Re w (Vi (if x=0 then y else x))):=by
 by_cases hx:x=0
 · rw[if_pos hx];subst hx
   by_cases hy:y=0
   · subst hy
     go_enter func205,ntmps205
     go_wp2;refine wp_loop_rounds 3 ?_;rw[rounds_succ];go_wp2;rw[rounds_succ];go_wp2;rw[rounds_succ];go_wp2;go_ret;exact⟨rfl,rfl⟩
   · have hy':(y != 0)=true:=by simpa using hy
     go_enter func205,ntmps205
     go_wp2;refine wp_loop_rounds 3 ?_;rw[rounds_succ];go_wp2;rw[rounds_succ];go_wp2;go_ret;exact⟨rfl,rfl⟩
 · rw[if_neg hx]
   have hx':(x != 0)=true:=by simpa using hx
   go_enter func205,ntmps205
   go_wp2;refine wp_loop_rounds 3 ?_;rw[rounds_succ];go_wp2;go_ret;exact⟨rfl,rfl⟩
theorem keepWC{u u':World}{x1 x2 y1 y2:Int}(hb:Gro u u')(h:(u.cell? (Ad w.heap.size 0)=some (Vi x1)∧u.cell? (Ad w.heap.size 1)=some (Vi x2)∧u.cell? (Ad (w.heap.size+1) 0)=some (Vi y1)∧u.cell? (Ad (w.heap.size+1) 1)=some (Vi y2))∧Gro w u):(u'.cell? (Ad w.heap.size 0)=some (Vi x1)∧u'.cell? (Ad w.heap.size 1)=some (Vi x2)∧u'.cell? (Ad (w.heap.size+1) 0)=some (Vi y1)∧u'.cell? (Ad (w.heap.size+1) 1)=some (Vi y2))∧Gro w u':=
 ⟨⟨cell_later hb.below h.1.1,cell_later hb.below h.1.2.1,cell_later hb.below h.1.2.2.1,cell_later hb.below h.1.2.2.2⟩,h.2.trans hb⟩
theorem wcompare_any(x1 x2 x3 x4 y1 y2 y3 y4:Int)(w:World):
 Calls prog 152 #[.agg #[Vi x1,Vi x2,Vi x3,Vi x4],.agg #[Vi y1,Vi y2,Vi y3,Vi y4]] w fun e w'=>e=.returned (Vi (if cmpI x1 y1=0 then cmpI x2 y2 else cmpI x1 y1))∧Gro w w':=by
 have k1:=fun u=>(compare_any x1 y1 u).mono (fun e w' h=>(⟨h.1,by rw[h.2];exact Gro.refl _⟩:e=_∧Gro u w'));have k2:=fun u=>(compare_any x2 y2 u).mono (fun e w' h=>(⟨h.1,by rw[h.2];exact Gro.refl _⟩:e=_∧Gro u w'));generalize cmpI x1 y1=c1 at *;generalize cmpI x2 y2=c2 at *;have ko:=fun b u h0 h1=>(or_two b c1 c2 u h0 h1).mono (fun e w' h=>(⟨h.1,by rw[h.2];exact Gro.refl _⟩:e=_∧Gro u w'));generalize (if c1=0 then c2 else c1)=z at*
 go_enter func152,ntmps152
 go_upto_region 1 with fail;have Z:Hid ((((w.alloc (.cells #[Vi x1,Vi x2,Vi x3,Vi x4] 161)).alloc (.cells #[Vi y1,Vi y2,Vi y3,Vi y4] 161)).cell? (Ad w.heap.size 0)=some (Vi x1)∧((w.alloc (.cells #[Vi x1,Vi x2,Vi x3,Vi x4] 161)).alloc (.cells #[Vi y1,Vi y2,Vi y3,Vi y4] 161)).cell? (Ad w.heap.size 1)=some (Vi x2)∧((w.alloc (.cells #[Vi x1,Vi x2,Vi x3,Vi x4] 161)).alloc (.cells #[Vi y1,Vi y2,Vi y3,Vi y4] 161)).cell? (Ad (w.heap.size+1) 0)=some (Vi y1)∧((w.alloc (.cells #[Vi x1,Vi x2,Vi x3,Vi x4] 161)).alloc (.cells #[Vi y1,Vi y2,Vi y3,Vi y4] 161)).cell? (Ad (w.heap.size+1) 1)=some (Vi y2))∧Gro w ((w.alloc (.cells #[Vi x1,Vi x2,Vi x3,Vi x4] 161)).alloc (.cells #[Vi y1,Vi y2,Vi y3,Vi y4] 161))):=Za ⟨⟨by simp[go_sem],by simp[go_sem],by simp[go_sem],by simp[go_sem]⟩,((Gro.refl w).alloc _).alloc _⟩;generalize (w.alloc (.cells #[Vi x1,Vi x2,Vi x3,Vi x4] 161)).alloc (.cells #[Vi y1,Vi y2,Vi y3,Vi y4] 161)=w1 at *;obtain⟨⟨q0,q1,q2,q3⟩,_⟩:=Z.out
 go_region_held3 (fun u=>(Kc u w.heap.size 0 (Vi x1)∧Kc u w.heap.size 1 (Vi x2)∧Kc u (w.heap.size+1) 0 (Vi y1)∧Kc u (w.heap.size+1) 1 (Vi y2))∧Gro w u)
  (first
   |(with_reducible assumption)
   |(with_reducible apply keepWC;with_reducible assumption;with_reducible assumption)
   |(refine keepWC ?_ Z.out;exact(Gro.refl _).drew)
   |(with_reducible refine keepWC ((Gro.refl _).alloc _) ?_;with_reducible assumption))
  (first
   |((first|go_at_call_of 206 (Vi x1)|go_at_call_of 206 (Value.int .i64 x1));refine Sb (k1 _) fun w' hb=>?_)
   |((first|go_at_call_of 206 (Vi x2)|go_at_call_of 206 (Value.int .i64 x2));refine Sb (k2 _) fun w' hb=>?_)
   |(go_at_call 205;refine Sb (ko _ _ (by simp[go_sem]) (by simp[go_sem])) fun w' hb=>?_))
 all_goals
  rename_i hH
  have HB:=Za hH.2;clear hH;go_wp2_with fail;go_ret;exact⟨rfl,HB.out⟩
theorem encL_get:∀(l:List Rd) (t:Nat),t<l.length*4→(encL l)[t]?=(encR (rat l (t/4)))[t%4]?
 |[],t,h=>by simp at h
 |r::s,t,h=>by
  show(encR r++encL s)[t]?=_
  by_cases ht:t<4
  · rw[List.getElem?_append_left (by rw[U0];exact ht),Nat.div_eq_of_lt ht,Nat.mod_eq_of_lt ht]
    rfl
  · rw[List.getElem?_append_right (by rw[U0];omega),U0,encL_get s (t-4) (by simp at h;omega)]
    have e1:t/4=(t-4)/4+1:=by omega
    have e2:t%4=(t-4)%4:=by omega
    rw[e1,e2]
    rfl
theorem getD_bang(l:List Rd)(k:Nat)(h:k<l.length):l.toArray[k]! =rat l k:=by
 rw[rat_eq h]
 simp[h]
theorem encR_some(r:Rd)(k:Nat)(h:k<4):(encR r)[k]?=some (encR r)[k]!:=by
 rw[getElem!_pos _ k (by rw[U0];exact h)];exact List.getElem?_eq_getElem _
theorem flat_encL(l:List Rd):(flatK encR 4 l.toArray).toList=encL l:=by
 apply List.ext_getElem?;intro t
 by_cases ht:t<l.length*4
 · rw[encL_get l t ht,encR_some _ _ (Nat.mod_lt _ (by decide)),←getD_bang l (t/4) (by omega)]
   simp[flatK,ht]
 · rw[List.getElem?_eq_none (by simp;omega),List.getElem?_eq_none (by rw[Xf];omega)]
theorem holdsK_of_block{l:List Rd}(hb:w.heap[g]?=some (.cells cur e (0,0)))(ht:cur.toList.take (l.length*4)=encL l):HoldsK encR 4 w g 0 l.toArray:=by
 intro j hj
 have hj':j<l.length*4:=by simpa using hj
 refine⟨?_,by simp[World.frozen?,hb]⟩
 have h1:(cur.toList.take (l.length*4))[j]?=(encL l)[j]?:=by rw[ht]
 rw[List.getElem?_take_of_lt hj',←flat_encL,Array.getElem?_toList,Array.getElem?_toList] at h1;simp only[World.cell?,hb,Nat.zero_add];simp only[Option.isSome_none,Bool.false_eq_true,if_false];rw[h1,getElem!_pos _ j hj];exact Array.getElem?_eq_getElem _
theorem heap_sortK{os:Array Obj}{fr:Nat×Nat}(d:Array Value)(hb:w.heap[g]?=some (.cells cur e fr)):
 (grow (putRow id (Sort.ahead w n) g 0 d) os).heap[g]?=some (.cells (putCells id 0 d cur) e fr):=by
 have hg:g<w.heap.size:=(Array.getElem?_eq_some_iff.1 hb).1;rw[heap_grow_old _ _ (by simpa using hg)]
 simp[putRow,mapBlock,Sort.ahead,Array.getElem?_modify,hb,onCells]
theorem grownBy_sortK{os:Array Obj}(d:Array Value):w.grownBy (grow (putRow id (Sort.ahead w n) g 0 d) os) (some g):=by
 refine⟨rfl,rfl,rfl,by simp,fun k hk hne=>?_⟩;rw[heap_grow_old _ _ (by simpa using hk)];have:g≠k:=fun e=>hne (by rw[e])
 simp[putRow,mapBlock,Sort.ahead,Array.getElem?_modify,this]
theorem take_putK(cur:Array Value)(ts:List Value)(h:ts.length≤cur.size):(putCells id 0 ts.toArray cur).toList.take ts.length=ts:=by
 apply List.ext_getElem?;intro j
 by_cases hj:j<ts.length
 · rw[List.getElem?_take_of_lt hj,Array.getElem?_toList]
   simp[putCells,hj,show j<cur.size by omega]
 · rw[List.getElem?_take_eq_none (by omega),List.getElem?_eq_none (by omega)]
theorem sortWorld_is(w:World)(g n:Nat)(l:List Rd)(os:Array Obj):sortWorldK encR 4 w g 0 n l.toArray os=grow (putRow id (Sort.ahead w n) g 0 (encL l).toArray) os:=by
 have:flatK encR 4 l.toArray=(encL l).toArray:=by rw[←flat_encL]
 unfold sortWorldK putRowK
 rw[this]
theorem collect_any(gf:Nat)(lb:Array Value)(eg:∀args w,(callFunc gf args).run prog w=.ok (.enter gf args) w)(S:List Rd→Prop)(N:Nat)(hN:N≤1000)(w:World)(hseq:SeqGives Fence.wide 7 prog gf lb rdV S N w):
 Calls prog 202 #[.func (.func gf) #[] lb] w fun e w'=>∃(v:Value) (ss:List Rd),e=.returned v∧S ss∧OwnL w.heap.size v ss w'∧Bw w w':=by
 have ha:=appendSeq_any gf lb eg S N hN w hseq
 go_enter func202,ntmps202
 go_wp2_with (go_at_call 235;refine ha.mono ?_;rintro e w' ⟨v,ss,rfl,hS,ho,hb⟩);go_ret;exact⟨v,ss,rfl,hS,ho,hb⟩
theorem cmp_lays(blk off n:Nat)(w:World):CmpLays prog 152 #[] encR 4 rcf blk off n w:=fun _ _ _ _ x y=>
 (wcompare_any x.1 x.2.1 x.2.2.1 x.2.2.2 y.1 y.2.1 y.2.2.1 y.2.2.2 _).mono fun _ _ h=>⟨h.1,h.2⟩
theorem enters_cmp:∀args w,(callFunc 152 args).run prog w=.ok (.enter 152 args) w:=enters_of func152 (by kernel_rfl) rfl
theorem sortedFunc_any(gf:Nat)(lb:Array Value)(eg:∀args w,(callFunc gf args).run prog w=.ok (.enter gf args) w)(l:List Rd)(hso:l.Pairwise (fun x y=>rlt x y=true))(hN:l.length≤1000)(w:World)(hseq:SeqGives Fence.wide 7 prog gf lb rdV (fun ss=>ss.Perm l) l.length w):
 Calls prog 150 #[.func (.func gf) #[] lb,.func (.func 152) #[] #[]] w fun e w'=>∃v,e=.returned v∧OwnL w.heap.size v l w'∧Bw w w':=by
 have hc:=collect_any gf lb eg _ _ hN w hseq
 go_enter func150,ntmps150
 go_upto_region 2 with(go_at_call 202;refine hc.mono ?_;rintro e W ⟨v,ss,rfl,hS,⟨hrow,hnil⟩,hb⟩);have hlen:=hS.length_eq
 rcases hrow.2 with⟨rfl,hz⟩|⟨g,cap,cur,rfl,hbase,hgb,r1,r2,r3,r4⟩
 · have hss:ss=[]:=List.eq_nil_of_length_eq_zero hz;subst hss;obtain rfl:l=[]:=List.eq_nil_of_length_eq_zero (by simpa using hlen.symm);clear hlen hz
   go_wp2_with (go_at_call 203;refine(sortF_none none 0 _ W).mono ?_;rintro e w' ⟨rfl,rfl⟩);go_ret;exact⟨.slice none 0 0,rfl,⟨hrow,by simp⟩,hb⟩
 · have hH:HoldsK encR 4 W g 0 ss.toArray:=holdsK_of_block hgb r4;have hgl:g<W.heap.size:=(Array.getElem?_eq_some_iff.1 hgb).1;have cS:=sortF_any 152 #[] g 0 cap ss.toArray W enters_cmp (cmp_lays g 0 _ W) hH hgl (by simp;omega);rw[List.size_toArray] at cS;have HL:Hid (ss.length=l.length):=hlen;have Ha:=Za hnil;clear hlen hnil
   go_wp2_with (go_at_call 203;refine cS.mono ?_;rintro e w' ⟨rfl,d',n,os,hp,hsd,rfl⟩);go_ret
   have hd:d'=l.toArray:=by
    have:=sortedIn_is (d:=ss.toArray) (d':=d') hso (by simpa using hS) (by simpa using hp) (by simpa using hsd);rw[←this]
   subst hd;rw[sortWorld_is];refine⟨.slice (some (Ad g 0)) ss.length cap,rfl,⟨?_,?_⟩,hb.grown (grownBy_sortK _) hb.size (fun j hj=>by cases hj;exact hbase)⟩
   · rw[HL.out];refine⟨Xf l,.inr ⟨g,cap,_,rfl,hbase,heap_sortK _ hgb,by rw[←HL.out];exact r1,r2,by simp[putCells,r3],?_⟩⟩;rw[←Xf];exact take_putK cur _ (by rw[Xf,r3,←HL.out];omega)
   · have:ss=[]↔l=[]:=by rw[←List.length_eq_zero_iff,←List.length_eq_zero_iff,HL.out]
     rw[Ha.out,this]
end Go.Proofs.YtnfdfiholcelaaaGreatDoor
namespace Go.Proofs.YtnfdfiholcelaaaGreatDoor
open Go.RowKit Go.Sort Go.Shelf Plain Go.Maps Tryz
variable {a:Option Addr}{k:Nat}{l:List Int}{w w':World}{x:Int}
def rdOf(x:Int):Option Rd:=if ones x 32%2=1 then some (labI x,srcI x,staI x,datI x) else none
theorem rdOf_yes(h:ones x 32%2=1):rdOf x=some (labI x,srcI x,staI x,datI x):=if_pos h
theorem rdOf_no(h:¬ones x 32%2=1):rdOf x=none:=if_neg h
def Wds(w:World)(a:Option Addr)(l:List Int):Prop:=(l=[]∨∃b off,a=some (Ad b off)∧∀k,k<l.length→Kc w b (off+k) (.int .u32 (at0 l k)))∧∀x∈l,0≤x∧x<4294967296
theorem Wds.later(h:Wds w a l)(hb:Bw w w'):Wds w' a l:=by
 refine⟨?_,h.2⟩
 rcases h.1 with h|⟨b,off,h,hc⟩
 · exact .inl h
 · exact .inr ⟨b,off,h,fun k hk=>cell_later hb (hc k hk)⟩
theorem Wds.at(h:Wds w a l)(hk:k<l.length):∃b off,a=some (Ad b off)∧Kc w b (off+k) (.int .u32 (at0 l k))∧0≤at0 l k∧at0 l k<4294967296:=by
 have hm:at0 l k∈l:=by simp[at0,hk]
 rcases h.1 with rfl|⟨b,off,h',hc⟩
 · simp at hk
 · exact⟨b,off,h',hc k hk,h.2 _ hm⟩
theorem by_any(a b c d:Int)(w:World):Calls prog 149 #[.agg #[Vi a,Vi b,Vi c,Vi d]] w (Rt w (.agg #[Vi a,Vi b])):=by
 go_enter func149,ntmps149
 go_wp2;exact bodyPost_ret (v:=.agg #[Vi a,Vi b]) (by simp[results,results149,go_sem]) rfl ⟨rfl,Zc (Zb _ _) (Zb _ _)⟩
theorem Nn{H:Type}{P:Program}{k:TypeId}{R:Value→Option (DataW H×List MemPlace)}{b n:Nat}{D:DataW H}(h:w.ownsMap P k R b n D)(hb:Bw w w'):w'.ownsMap P k R b n D:=by
 have hl:=h.lt;obtain⟨es,clock,hb',F,hs,hD⟩:=h;exact⟨es,clock,(hb.block b hl).trans hb',F,hs,hD⟩
theorem vals_gives{H:Type}(n:Nat)(hn:1≤n)(Bm b nn:Nat)(D0:DataW H)(ls:List Rd)(hrep:RepM D0 ls)(hwf:∀z∈ls,wfR z)(hso:ls.Pairwise (fun x y=>rlt x y=true))(w:World)(hm:Kc w Bm 0 (.map (some b)))(hown:w.ownsMap prog 241 (rdRead (H:=H)) b nn D0):
 SeqGives Fence.wide n prog 204 #[.pointer (some (Ad Bm 0))] rdV (fun ss=>ss.Perm ls) ls.length w:=fun l J W hW hJ hY h0=>
 vals1_in n hn l Bm b nn D0 ls hrep hwf hso J hY W hJ (cell_later hW hm) (Nn hown hW) h0
theorem values_any(mb:Option Nat)(w:World):Calls prog 151 #[.map mb] w fun e w'=>e=.returned (.func (.func 204) #[] #[.pointer (some (Ad w.heap.size 0))])∧w'=w.alloc (.cells #[.map mb] 238):=by
 go_enter func151,ntmps151
 go_wp2;go_ret;exact⟨rfl,rfl⟩
theorem No{r V o:Nat}{x:Value}(h:w.grownBy w' (some r))(hc:w.cell? (Ad V o)=some x)(hV:V≠r):w'.cell? (Ad V o)=some x:=
 (World.cell?_of_block (w:=w) (h.block V (World.block_lt_of_cell? w ⟨V,o,none⟩ hc) (fun e=>hV (by cases e;rfl)))).trans hc
theorem lab_bd(x:Int):0≤labI x∧labI x≤255:=by
 have:=lab_turn x;have:=turn_le x 8 (by omega)
 omega
theorem rd_wf(x:Int):(Lit.int .i64 (labI x)).wf=true∧(Lit.int .i64 (srcI x)).wf=true:=by
 have:=lab_bd x;exact⟨WalkArith.wf_i64 (by omega),WalkArith.wf_i64 (by unfold srcI;omega)⟩
theorem gat_wf(ws:List Int):∀z∈gat rdOf ws,wfR z:=fun z hz=>by
 obtain⟨x,_,hx⟩:=gat_mem rdOf ws z hz
 unfold rdOf at hx
 split at hx
 · cases hx;exact rd_wf x
 · cases hx
theorem gather_step{H:Type}{ws:List Int}{A B C E:Int}{D:DataW H}(hsn:ws.take (k+1)=ws.take k++[x])(hr:rdOf x=some (A,B,C,E))(hwf:(Lit.int .i64 A).wf=true∧(Lit.int .i64 B).wf=true)(hp:RepM D (gat rdOf (ws.take k))):
 bads rdOf (ws.take (k+1))=bads rdOf (ws.take k)∧RepM (D.put (klI A B) (datR (A,B,C,E))) (gat rdOf (ws.take (k+1))):=by
 have h:=hp.put (r:=(A,B,C,E)) (gat_wf _) hwf (gat_sorted _ _);rw[hsn,Ni,Wm,hr];exact⟨by simp,h⟩
theorem gather_any(a:Option Addr)(cap:Nat)(ws:List Int)(hl:ws.length≤64)(w:World)(hw:Wds w a ws):
 Calls prog 100 #[.slice a ws.length cap] w fun e w'=>(∃v,e=.returned (.tuple #[v,Vi (bads rdOf ws),.nilIface])∧OwnL w.heap.size v (gat rdOf ws) w')∧Bw w w':=by
 have HW:=Za hw;clear hw
 have h64:¬(64:Int)<(ws.length:Int):=by omega
 have hmm:=@run_makeMap prog
 go_enter func100,ntmps100
 go_wp2
 go_loopw [6,18] (fun p i wr=>∃(k:Nat) (D:DataW Unit),k≤ws.length∧p=Vi (bads rdOf (ws.take k))∧i=Vi k∧wr.ownsMap prog 241 (rdRead (H:=Unit)) w.heap.size k D∧RepM D (gat rdOf (ws.take k))∧Bw w wr) (fun _ i _=>ws.length-(intOf i).toNat)
 case atStart=>
  exact⟨0,.map [],Nat.zero_le _,rfl,rfl,World.ownsMap_made _ _ _ _,RepM.nil,(Below.refl _ _).alloc (Nat.le_refl _) _⟩
 case round=>
  obtain⟨k,D,hk,rfl,rfl,hown,hrep,hb⟩:=hrel;have hbd:=bads_le rdOf (ws.take k);have hb64:bads rdOf (ws.take k)≤64:=Nat.le_trans hbd (Nat.le_trans (List.length_take_le k ws) (by omega));clear hbd
  by_cases hlt:k<ws.length
  · obtain⟨b,off,rfl,hcell,hx0,hx1⟩:=(HW.out.later hb).at hlt;have hsn:Hid (ws.take (k+1)=ws.take k++[at0 ws k]):=Zhv ws 0 k hlt;have HE:=Za hown;have HP:=Za hrep;have HB:=Za hb;clear hown hrep hb
    by_cases ho:ones (at0 ws k) 32%2=1
    · have hu:=unpack_yes _ hx0 hx1 ho;have HR:=Za (rdOf_yes ho);have Hb:=Za (rd_wf (at0 ws k))
      unfold readV at hu
      generalize labI (at0 ws k)=A at *;generalize srcI (at0 ws k)=B at *;generalize staI (at0 ws k)=C at *;generalize datI (at0 ws k)=E at *;generalize at0 ws k=x at *;clear ho;have Hc:=Za (gather_step hsn.out HR.out Hb.out HP.out)
      go_upto_region 11 with(go_at_call 148;refine Sb (hu _) fun w1 hb1=>?_);have Hd:=Za ((Nn HE.out hb1).alloc (.cells #[Vi A,Vi B,Vi C,Vi E] 161));have Hg:=Za (Zc (Zc HB.out hb1) (Zb w1 (.cells #[Vi A,Vi B,Vi C,Vi E] 161)));have HC:=Za (Box4.new w1 A B C E 161);generalize w1.alloc (.cells #[Vi A,Vi B,Vi C,Vi E] 161)=w2 at *;generalize w1.heap.size=V at *;clear hb1;obtain⟨q0,q1,q2,q3,_⟩:=HC.out;have HV:Hid (V≠w.heap.size):=Za (fun e=>by subst e;obtain⟨es,clock,hh,_⟩:=Hd.out;simp[World.cell?,hh] at q0);have Z:Hid (Kc w2 V 0 (Vi A)∧Kc w2 V 1 (Vi B)∧Kc w2 V 2 (Vi C)∧Kc w2 V 3 (Vi E)):=Za ⟨q0,q1,q2,q3⟩
      go_region_held3 (fun u=>(Kc u V 0 (Vi A)∧Kc u V 1 (Vi B)∧Kc u V 2 (Vi C)∧Kc u V 3 (Vi E)))
       (first
        |(with_reducible assumption)
        |exact Z.out
        |(with_reducible exact KS4.out))
       (first
        |(go_at_call 149;refine Sb (by_any A B C E _) fun w3 hb3=>?_;have Ha:=Za (HC.out.drew.later hb3);have KS3:(Kc w3 V 0 (.int .i64 A)∧Kc w3 V 1 (.int .i64 B)∧Kc w3 V 2 (.int .i64 C)∧Kc w3 V 3 (.int .i64 E)):=⟨Ha.out.1,Ha.out.2.1,Ha.out.2.2.1,Ha.out.2.2.2.1⟩;have Hf:=Za (Zc (Zc Hg.out (Below.refl _ _).drew) hb3);obtain⟨w4,hrun,own4,hg4⟩:=(Nn Hd.out.drew hb3).update N9 map_under (by unfold maxLen;omega) (keyOf_who Hb.out.1 Hb.out.2) (val:=.agg #[.int .i64 A,.int .i64 B,.int .i64 C,.int .i64 E]) (rdRead_mk (A,B,C,E));have Hh:=Za own4;have Hi:=Za hg4;have KS4:Hid (Kc w4 V 0 (.int .i64 A)∧Kc w4 V 1 (.int .i64 B)∧Kc w4 V 2 (.int .i64 C)∧Kc w4 V 3 (.int .i64 E)):=Za ⟨No hg4 KS3.1 HV.out,No hg4 KS3.2.1 HV.out,No hg4 KS3.2.2.1 HV.out,No hg4 KS3.2.2.2 HV.out⟩;clear own4 hg4 hb3))
      all_goals
       go_wp2_with fail;go_roundw
       (case rel=>exact⟨k+1,D.put (klI A B) (datR (A,B,C,E)),by omega,by rw[Hc.out.1],by go_num,Hh.out,Hc.out.2,Hf.out.grown Hi.out Hf.out.size (fun j e=>by cases e;exact Nat.le_refl _)⟩)
       (case measure=>simp[intOf];omega)
    · have hu:=unpack_no _ hx0 hx1 ho;have HR:=Za (rdOf_no ho);have HN:Hid ((bads rdOf (ws.take (k+1)):Int)=(bads rdOf (ws.take k):Int)+1):=Za (by rw[hsn.out,Ni,HR.out];simp);rw[Z4 (by decide)] at hu;generalize at0 ws k=x at *;clear ho
      go_wp2_with (go_at_call 148;refine Sb (hu _) fun w1 hb1=>?_);go_roundw
      case rel=>exact⟨k+1,D,by omega,by rw[HN.out],by go_num,((Nn HE.out hb1).alloc _).mono (Nat.le_succ _),by rw[hsn.out,Wm,HR.out];exact HP.out,Zc (Zc HB.out hb1) (Zb _ _)⟩
      case measure=>simp[intOf];omega
  · obtain rfl:k=ws.length:=by omega
    rw[List.take_length] at hrep;rw[List.take_length];have hsd:=gat_sorted rdOf ws;have hgl:=Uw rdOf ws;have hwf:=gat_wf ws;have HB:=Za hb;have hv:=values_any (some w.heap.size) wr;have HM:Hid ((wr.alloc (.cells #[.map (some w.heap.size)] 238)).cell? (Ad wr.heap.size 0)=some (.map (some w.heap.size))):=Za (by simp[go_sem]);have hs:=sortedFunc_any 204 #[.pointer (some (Ad wr.heap.size 0))] (enters_of func204 (by kernel_rfl) rfl) (gat rdOf ws) hsd (by omega) (wr.alloc (.cells #[.map (some w.heap.size)] 238)) (vals_gives 7 (by omega) wr.heap.size w.heap.size ws.length D (gat rdOf ws) hrep hwf hsd _ HM.out (hown.alloc _));clear hsd hgl hwf hown hrep hb hb64
    go_wp2_with (first
     |(go_at_call 151;refine hv.mono ?_;rintro e w1 ⟨rfl,rfl⟩)
     |(go_at_call 150;refine hs.mono ?_;rintro e w2 ⟨v,rfl,ho,hb2⟩))
    go_ret3;refine⟨⟨v,rfl,?_⟩,Zc (Zc HB.out (Zb _ _)) hb2⟩;exact⟨ownsRow_base_a ho.1 (by have:=HB.out.size;simp;omega),ho.2⟩
end Go.Proofs.YtnfdfiholcelaaaGreatDoor
namespace Go.Proofs.YtnfdfiholcelaaaGreatDoor
open Go.RowKit Go.Sort Plain Tryz
variable {B Q j:Nat}{H L M N P R x y:Int}{u u' w:World}{v:Value}
theorem Zhx(L H N P M R lo hi room:Int)(p0:0≤P)(p1:P≤2000)(r0:1≤R)(r1:R≤4000)(s0:-4000≤lo)(s1:hi≤4000)(hlh:lo≤hi)(w:World):
 Calls prog 145 #[.agg #[Vi L,Vi H,Vi N,Vi P,Vi M,Vi R],Vi lo,Vi hi,Vi room] w fun e w'=>(∃h,e=.returned (Vi h)∧IsHi R P lo hi room h)∧Bw w w':=by
 have HX:=Za (GB.new w L H N P M R)
 go_enter func145,ntmps145
 go_wp2;generalize w.alloc (.cells #[Vi L,Vi H,Vi N,Vi P,Vi M,Vi R] 99)=w1 at*
 go_loopw [2] (fun u wr=>∃h:Int,u=Vi h∧lo≤h∧h≤hi∧Hid (∀s,h<s→s≤hi→room<bk R (s+P))∧GB w wr L H N P M R) (fun u _=>(intOf u+4000).toNat)
 case atStart=>exact⟨hi,rfl,hlh,Int.le_refl _,Za (fun s h1 h2=>by omega),HX.out⟩
 case round=>
  clear HX;obtain⟨h,rfl,h0,h1,hs,hX⟩:=hrel;rename World=>wr;have HX:=Za hX;obtain⟨⟨q0,q1,q2,q3,q4,q5⟩,_⟩:=hX;have hbr:=fun w=>(Nr L H N P M R h p0 p1 r0 r1 (by omega) (by omega) w).mono (fun e w' h=>(⟨h.1,by rw[h.2];exact Zb _ _⟩:e=_∧Bw w w'))
  by_cases c1:lo<h
  · by_cases c2:room<bk R (h+P)
    · have hs':Hid (∀s,h-1<s→s≤hi→room<bk R (s+P)):=by
       apply Za;intro s a b
       by_cases e:s=h
       · rw[e];exact c2
       · exact hs.out s (by omega) b
      generalize bk R (h+P)=k at*
      go_wp2_with (go_at_call 39;refine Sb (hbr _) fun w2 hb2=>?_);go_roundw
      case rel=>exact⟨h-1,rfl,by omega,by omega,hs',HX.out.later hb2⟩
      case measure=>simp[intOf];omega
    · have hh:Hid (IsHi R P lo hi room h):=Za ⟨h0,h1,Or.inr (by omega),hs.out⟩;generalize bk R (h+P)=k at*
      go_wp2_with (go_at_call 39;refine Sb (hbr _) fun w2 hb2=>?_);go_ret;exact⟨⟨_,rfl,hh.out⟩,(HX.out.later hb2).2⟩
  · have hh:Hid (IsHi R P lo hi room h):=Za ⟨h0,h1,Or.inl (by omega),hs.out⟩;go_wp2_with fail;go_ret;exact⟨⟨_,rfl,hh.out⟩,HX.out.2⟩
theorem keepG7(hb:Gro u u')(h:(u.cell? (Ad w.heap.size 0)=some (Vi L)∧u.cell? (Ad w.heap.size 1)=some (Vi H)∧u.cell? (Ad w.heap.size 2)=some (Vi N)∧u.cell? (Ad w.heap.size 3)=some (Vi P)∧u.cell? (Ad w.heap.size 4)=some (Vi M)∧u.cell? (Ad w.heap.size 5)=some (Vi R)∧u.cell? (Ad w.heap.size 6)=some (Vi x))∧Gro w u):(u'.cell? (Ad w.heap.size 0)=some (Vi L)∧u'.cell? (Ad w.heap.size 1)=some (Vi H)∧u'.cell? (Ad w.heap.size 2)=some (Vi N)∧u'.cell? (Ad w.heap.size 3)=some (Vi P)∧u'.cell? (Ad w.heap.size 4)=some (Vi M)∧u'.cell? (Ad w.heap.size 5)=some (Vi R)∧u'.cell? (Ad w.heap.size 6)=some (Vi x))∧Gro w u':=
 ⟨⟨Zx hb.below h.1.1,Zx hb.below h.1.2.1,Zx hb.below h.1.2.2.1,Zx hb.below h.1.2.2.2.1,Zx hb.below h.1.2.2.2.2.1,Zx hb.below h.1.2.2.2.2.2.1,Zx hb.below h.1.2.2.2.2.2.2⟩,h.2.trans hb⟩
theorem newG7(w:World)(L H N P M R x:Int)(t:TypeId):(fun u=>(Kc u w.heap.size 0 (Vi L)∧Kc u w.heap.size 1 (Vi H)∧Kc u w.heap.size 2 (Vi N)∧Kc u w.heap.size 3 (Vi P)∧Kc u w.heap.size 4 (Vi M)∧Kc u w.heap.size 5 (Vi R)∧Kc u w.heap.size 6 (Vi x))∧Gro w u) (w.alloc (.cells #[Vi L,Vi H,Vi N,Vi P,Vi M,Vi R,Vi x] t)):=by
 refine⟨⟨?_,?_,?_,?_,?_,?_,?_⟩,(Gro.refl w).alloc _⟩<;>simp[go_sem]
theorem stopsHi_any(L H N P M R x:Int)(g:GR L H N P M R)(x0:-2000000≤x)(x1:x≤2000000)(s:Int)(s0:-4000≤s)(s1:s≤4000)(w:World):
 Calls prog 244 #[.agg #[Vi L,Vi H,Vi N,Vi P,Vi M,Vi R,Vi x],Vi s] w fun e w'=>e=.returned (.bool (decide (bk R (s+P)≤H-N-x)))∧Gro w w':=by
 obtain⟨l0,l1,h0,h1,n0,n1,p0,p1,m0,m1,r0,r1⟩:=g;have hbr:=fun w=>(brake_ex L H N P M R s p0 p1 r0 (by omega) s0 s1 w).mono (fun e w' h=>(⟨h.1,by rw[h.2];exact(Gro.refl _).alloc _⟩:e=_∧Gro w w'));have hk:=bk_lt (R:=R) (f:=s+P) (by omega) (by omega);have hk0:=Wf R (s+P);generalize bk R (s+P)=k at *;have v1:=Wr (x+N);have v2:=Wr (x+N+k);have HD:Hid (decide (x+N+k≤H)=decide (k≤H-N-x)):=Za (decide_eq_decide.mpr (by omega));have HX:=Za (newG7 w L H N P M R x 337)
 go_enter func244,ntmps244
 go_upto_region 1 with fail;generalize w.alloc (.cells #[Vi L,Vi H,Vi N,Vi P,Vi M,Vi R,Vi x] 337)=w1 at *;have S0:(Kc w1 w.heap.size 0 (Vi L)∧Kc w1 w.heap.size 1 (Vi H)∧Kc w1 w.heap.size 2 (Vi N)∧Kc w1 w.heap.size 3 (Vi P)∧Kc w1 w.heap.size 4 (Vi M)∧Kc w1 w.heap.size 5 (Vi R)∧Kc w1 w.heap.size 6 (Vi x))∧Gro w w1:=HX.out;have Z:=Za S0;obtain⟨⟨q0,q1,q2,q3,q4,q5,q6⟩,_⟩:=HX.out
 go_region_held3 (fun u=>(Kc u w.heap.size 0 (Vi L)∧Kc u w.heap.size 1 (Vi H)∧Kc u w.heap.size 2 (Vi N)∧Kc u w.heap.size 3 (Vi P)∧Kc u w.heap.size 4 (Vi M)∧Kc u w.heap.size 5 (Vi R)∧Kc u w.heap.size 6 (Vi x))∧Gro w u)
  (first
   |(with_reducible assumption)
   |(with_reducible apply keepG7;with_reducible assumption;with_reducible assumption)
   |(refine keepG7 ?_ Z.out;exact(Gro.refl _).drew))
  (first
   |(go_at_call 227;refine Sb (hbr _) fun w' hb=>?_))
 all_goals
  rename_i hH
  have HB:=Za hH.2;clear hH;go_wp2_with fail;go_ret;exact⟨by rw[←HD.out];rfl,HB.out⟩
theorem stopsLo_any(L H N P M R x:Int)(g:GR L H N P M R)(x0:-2000000≤x)(x1:x≤2000000)(s:Int)(s0:-4000≤s)(s1:s≤4000)(w:World):
 Calls prog 243 #[.agg #[Vi L,Vi H,Vi N,Vi P,Vi M,Vi R,Vi x],Vi s] w fun e w'=>e=.returned (.bool (decide (bk R (s+P)≤x-N-L)))∧Gro w w':=by
 obtain⟨l0,l1,h0,h1,n0,n1,p0,p1,m0,m1,r0,r1⟩:=g;have hbr:=fun w=>(brake_ex L H N P M R s p0 p1 r0 (by omega) s0 s1 w).mono (fun e w' h=>(⟨h.1,by rw[h.2];exact(Gro.refl _).alloc _⟩:e=_∧Gro w w'));have hk:=bk_lt (R:=R) (f:=s+P) (by omega) (by omega);have hk0:=Wf R (s+P);generalize bk R (s+P)=k at *;have v1:=Wr (x-N);have v2:=Wr (x-N-k);have HD:Hid (decide (L≤x-N-k)=decide (k≤x-N-L)):=Za (decide_eq_decide.mpr (by omega));have HX:=Za (newG7 w L H N P M R x 337)
 go_enter func243,ntmps243
 go_upto_region 1 with fail;generalize w.alloc (.cells #[Vi L,Vi H,Vi N,Vi P,Vi M,Vi R,Vi x] 337)=w1 at *;have S0:(Kc w1 w.heap.size 0 (Vi L)∧Kc w1 w.heap.size 1 (Vi H)∧Kc w1 w.heap.size 2 (Vi N)∧Kc w1 w.heap.size 3 (Vi P)∧Kc w1 w.heap.size 4 (Vi M)∧Kc w1 w.heap.size 5 (Vi R)∧Kc w1 w.heap.size 6 (Vi x))∧Gro w w1:=HX.out;have Z:=Za S0;obtain⟨⟨q0,q1,q2,q3,q4,q5,q6⟩,_⟩:=HX.out
 go_region_held3 (fun u=>(Kc u w.heap.size 0 (Vi L)∧Kc u w.heap.size 1 (Vi H)∧Kc u w.heap.size 2 (Vi N)∧Kc u w.heap.size 3 (Vi P)∧Kc u w.heap.size 4 (Vi M)∧Kc u w.heap.size 5 (Vi R)∧Kc u w.heap.size 6 (Vi x))∧Gro w u)
  (first
   |(with_reducible assumption)
   |(with_reducible apply keepG7;with_reducible assumption;with_reducible assumption)
   |(refine keepG7 ?_ Z.out;exact(Gro.refl _).drew))
  (first
   |(go_at_call 227;refine Sb (hbr _) fun w' hb=>?_))
 all_goals
  rename_i hH
  have HB:=Za hH.2;clear hH;go_wp2_with fail;go_ret;exact⟨by rw[←HD.out];rfl,HB.out⟩
theorem asks_any(g A B C:Nat)(L H N P M R x lo:Int)(i:Nat)(b:Bool)(W:World)(lo0:-4000≤lo)(lo1:lo+(i:Int)≤4000)(eg:∀args w,(callFunc g args).run prog w=.ok (.enter g args) w)(hg:∀w,Calls prog g #[.agg #[Vi L,Vi H,Vi N,Vi P,Vi M,Vi R,Vi x],Vi (lo+(i:Int))] w fun e w'=>e=.returned (.bool b)∧Gro w w')(hf:Kc W A 0 (.func (.func g) #[] #[]))(ha:(Kc W B 0 (Vi L)∧Kc W B 1 (Vi H)∧Kc W B 2 (Vi N)∧Kc W B 3 (Vi P)∧Kc W B 4 (Vi M)∧Kc W B 5 (Vi R)∧Kc W B 6 (Vi x)))(hl:Kc W C 0 (Vi lo)):
 Calls prog 264 (#[Vi (i:Int)]++#[.pointer (some (Ad A 0)),.pointer (some (Ad B 0)),.pointer (some (Ad C 0))]) W fun e w'=>e=.returned (.bool (!b))∧Gro W w':=by
 obtain⟨a0,a1,a2,a3,a4,a5,a6⟩:=ha
 have hi:(0:Int)≤(i:Int):=by omega
 go_enter func264,ntmps264
 go_wp2_with (go_at_fn g;refine Sb (hg _) fun w' hb=>?_);go_ret;exact⟨rfl,hb⟩
theorem run_maxG(ts:Array TypeId)(t:TypeId)(p q:Int)(w:World):(Builtin.max_ ts t #[Vi p,Vi q]).run prog w=.ok (Vi (if p<q then q else p)) w:=by
 by_cases h:p<q
 · simp[Builtin.max_,Builtin.max2,h]
 · simp[Builtin.max_,Builtin.max2,h]
theorem run_minG(ts:Array TypeId)(t:TypeId)(p q:Int)(w:World):(Builtin.min_ ts t #[Vi p,Vi q]).run prog w=.ok (Vi (if q<p then q else p)) w:=by
 by_cases h:q<p
 · simp[Builtin.min_,Builtin.min2,h]
 · simp[Builtin.min_,Builtin.min2,h]
theorem gnew1(W:World)(v:Value)(t:TypeId):(W.alloc (.cells #[v] t)).cell? (Ad W.heap.size 0)=some v:=by simp[go_sem]
theorem highest_any(g:Nat)(L H N P M R x lo hi room:Int)(r0:1≤R)(s0:-4000≤lo)(s1:hi≤4000)(hlh:lo≤hi)(eg:∀args w,(callFunc g args).run prog w=.ok (.enter g args) w)(hg:∀s,-4000≤s→s≤4000→∀w,Calls prog g #[.agg #[Vi L,Vi H,Vi N,Vi P,Vi M,Vi R,Vi x],Vi s] w fun e w'=>e=.returned (.bool (decide (bk R (s+P)≤room)))∧Gro w w')(w:World):
 Calls prog 242 #[.agg #[Vi L,Vi H,Vi N,Vi P,Vi M,Vi R,Vi x],Vi lo,Vi hi,.func (.func g) #[] #[]] w fun e w'=>(∃h,e=.returned (Vi h)∧IsHi R P lo hi room h)∧Bw w w':=by
 obtain⟨n,hn⟩:∃n:Nat,(n:Int)=hi-lo+1:=⟨(hi-lo+1).toNat,by omega⟩;obtain⟨W0,hW0⟩:∃W0,W0=((w.alloc (.cells #[Vi L,Vi H,Vi N,Vi P,Vi M,Vi R,Vi x] 337)).alloc (.cells #[Vi lo] 3)).alloc (.cells #[.func (.func g) #[] #[]] 339):=⟨_,rfl⟩
 have gro:Gro w W0:=by rw[hW0];exact(((Gro.refl w).alloc _).alloc _).alloc _
 have sz:W0.heap.size=w.heap.size+1+1+1:=by rw[hW0];simp
 have ca:(Kc W0 w.heap.size 0 (Vi L)∧Kc W0 w.heap.size 1 (Vi H)∧Kc W0 w.heap.size 2 (Vi N)∧Kc W0 w.heap.size 3 (Vi P)∧Kc W0 w.heap.size 4 (Vi M)∧Kc W0 w.heap.size 5 (Vi R)∧Kc W0 w.heap.size 6 (Vi x)):=by
  have:=(keepG7 (((Gro.refl _).alloc (.cells #[Vi lo] 3)).alloc (.cells #[.func (.func g) #[] #[]] 339)) (newG7 w L H N P M R x 337)).1;rw[←hW0] at this;exact this
 have cl:W0.cell? (Ad (w.heap.size+1) 0)=some (Vi lo):=by
  have h:=gnew1 (w.alloc (.cells #[Vi L,Vi H,Vi N,Vi P,Vi M,Vi R,Vi x] 337)) (Vi lo) 3;rw[World.size_alloc] at h;rw[hW0];exact Zx (Zb _ _) h
 have cf:W0.cell? (Ad (w.heap.size+1+1) 0)=some (.func (.func g) #[] #[]):=by
  have h:=gnew1 ((w.alloc (.cells #[Vi L,Vi H,Vi N,Vi P,Vi M,Vi R,Vi x] 337)).alloc (.cells #[Vi lo] 3)) (.func (.func g) #[] #[]) 339;rw[World.size_alloc,World.size_alloc] at h;rw[hW0];exact h
 have ec:∀args w,(callFunc 264 args).run prog w=.ok (.enter 264 args) w:=enters_of func264 (by kernel_rfl) rfl;have hS:=search_any 264 #[.pointer (some (Ad (w.heap.size+1+1) 0)),.pointer (some (Ad w.heap.size 0)),.pointer (some (Ad (w.heap.size+1) 0))] n (fun i=>!decide (bk R (lo+(i:Int)+P)≤room)) W0 ec (by omega)
  (fun m os i hi=>by
   have k:Gro W0 (grow (W0.drewN m) os):=⟨m,os,rfl⟩
   exact(asks_any g _ _ _ L H N P M R x lo i _ _ s0 (by omega) eg (hg _ (by omega) (by omega)) (Zx k.below cf) (keepG7 (w:=w) k ⟨ca,gro⟩).1 (Zx k.below cl)))
  (fun a b hab hb h=>by
   have m:=bk_mono (R:=R) (f:=lo+(a:Int)+P) (g:=lo+(b:Int)+P) (by omega) (by omega)
   simp at h⊢;omega)
 have H0:Hid (IsHi R P lo hi room (lo+(if((List.range n).countP (fun i:Nat=>decide (bk R (lo+(i:Int)+P)≤room)):Int)-1≤0 then 0 else((List.range n).countP (fun i:Nat=>decide (bk R (lo+(i:Int)+P)≤room)):Int)-1))):=Za (isHi_count r0 (by omega) hlh)
 have hc:(List.range n).countP (fun i:Nat=>decide (bk R (lo+(i:Int)+P)≤room))≤n:=by
  have:=List.countP_le_length (p:=fun i:Nat=>decide (bk R (lo+(i:Int)+P)≤room)) (l:=List.range n)
  simpa using this
 simp only[Bool.not_not] at hS;generalize (List.range n).countP (fun i:Nat=>decide (bk R (lo+(i:Int)+P)≤room))=c at *;rw[hn] at hS;have x2:=fun ts t p q w=>run_maxG ts t p q w
 have hcz:(0:Int)≤(c:Int):=by omega
 have hcn:(c:Int)≤8001:=by omega
 have HG:=Za gro.below;have CL:=Za cl;clear gro sz ca cl cf ec hg hc eg
 by_cases hc0:(c:Int)-1<0
 · have H1:Hid (IsHi R P lo hi room lo):=by
    have:=H0.out;rw[if_pos (by omega),Int.add_zero] at this;exact Za this
   clear H0
   go_enter func242,ntmps242
   go_wp2_with (go_at_call 246;rw[←hW0];refine hS.mono ?_;rintro e w' ⟨rfl,q,os,hq⟩;have HW:Hid (Gro W0 w'):=Za ⟨q,os,hq⟩;have q1:w'.cell? (Ad (w.heap.size+1) 0)=some (Vi lo):=Zx HW.out.below CL.out;clear hq);go_ret;exact⟨⟨_,rfl,H1.out⟩,Zc HG.out HW.out.below⟩
 · have H1:Hid (IsHi R P lo hi room (lo+((c:Int)-1))):=by
    have:=H0.out
    by_cases e:(c:Int)-1≤0
    · rw[if_pos e] at this;rw[show(c:Int)-1=0 by omega];exact Za this
    · rw[if_neg e] at this;exact Za this
   clear H0
   go_enter func242,ntmps242
   go_wp2_with (go_at_call 246;rw[←hW0];refine hS.mono ?_;rintro e w' ⟨rfl,q,os,hq⟩;have HW:Hid (Gro W0 w'):=Za ⟨q,os,hq⟩;have q1:w'.cell? (Ad (w.heap.size+1) 0)=some (Vi lo):=Zx HW.out.below CL.out;clear hq);go_ret;exact⟨⟨_,rfl,H1.out⟩,Zc HG.out HW.out.below⟩
def GS(w u:World)(L H N P M R:Int):Prop:=(Kc u w.heap.size 0 (Vi L)∧Kc u w.heap.size 1 (Vi H)∧Kc u w.heap.size 2 (Vi N)∧Kc u w.heap.size 3 (Vi P)∧Kc u w.heap.size 4 (Vi M)∧Kc u w.heap.size 5 (Vi R))∧(Kc u (w.heap.size+1) 0 (Vi 0)∧Kc u (w.heap.size+1) 1 (Vi 0)∧u.frozen? (Ad (w.heap.size+1) 0)=false∧u.frozen? (Ad (w.heap.size+1) 1)=false)∧Bw w u
theorem Wa{w':World}(hb:Bw w w')(h:Kc w B j v)(k:w.frozen? (Ad B j)=false):w'.frozen? (Ad B j)=false:=
 (hb.frozen (p:=⟨B,j,none⟩) (World.block_lt_of_cell? w _ h)).trans k
theorem r2_later(h:(Kc w B 0 (Vi 0)∧Kc w B 1 (Vi 0)∧w.frozen? (Ad B 0)=false∧w.frozen? (Ad B 1)=false))(hb:Bw w u):(Kc u B 0 (Vi 0)∧Kc u B 1 (Vi 0)∧u.frozen? (Ad B 0)=false∧u.frozen? (Ad B 1)=false):=
 ⟨Zx hb h.1,Zx hb h.2.1,Wa hb h.1 h.2.2.1,Wa hb h.2.1 h.2.2.2⟩
theorem GS.later(h:GS w u L H N P M R)(hb:Bw u u'):GS w u' L H N P M R:=⟨B6.later h.1 hb,r2_later h.2.1 hb,Zc h.2.2 hb⟩
theorem keepGS(hb:Bw u u')(h:(Kc u w.heap.size 0 (Vi L)∧Kc u w.heap.size 1 (Vi H)∧Kc u w.heap.size 2 (Vi N)∧Kc u w.heap.size 3 (Vi P)∧Kc u w.heap.size 4 (Vi M)∧Kc u w.heap.size 5 (Vi R))∧(Kc u (w.heap.size+1) 0 (Vi 0)∧Kc u (w.heap.size+1) 1 (Vi 0)∧u.frozen? (Ad (w.heap.size+1) 0)=false∧u.frozen? (Ad (w.heap.size+1) 1)=false)∧Bw w u):(Kc u' w.heap.size 0 (Vi L)∧Kc u' w.heap.size 1 (Vi H)∧Kc u' w.heap.size 2 (Vi N)∧Kc u' w.heap.size 3 (Vi P)∧Kc u' w.heap.size 4 (Vi M)∧Kc u' w.heap.size 5 (Vi R))∧(Kc u' (w.heap.size+1) 0 (Vi 0)∧Kc u' (w.heap.size+1) 1 (Vi 0)∧u'.frozen? (Ad (w.heap.size+1) 0)=false∧u'.frozen? (Ad (w.heap.size+1) 1)=false)∧Bw w u':=GS.later h hb
theorem GS.new(w:World)(L H N P M R:Int):GS w ((w.alloc (.cells #[Vi L,Vi H,Vi N,Vi P,Vi M,Vi R] 99)).alloc (.cells #[Vi 0,Vi 0] 105)) L H N P M R:=by
 refine⟨(B6.new w L H N P M R 99).later (Zb _ _),⟨?_,?_,?_,?_⟩,Zc (Zb _ _) (Zb _ _)⟩<;>simp[go_sem]
def B7(u:World)(Q:Nat)(L H N P M R x:Int):Prop:=(Kc u Q 0 (Vi L)∧Kc u Q 1 (Vi H)∧Kc u Q 2 (Vi N)∧Kc u Q 3 (Vi P)∧Kc u Q 4 (Vi M)∧Kc u Q 5 (Vi R)∧Kc u Q 6 (Vi x))
theorem B7.later(h:B7 u Q L H N P M R x)(hb:Bw u u'):B7 u' Q L H N P M R x:=
 ⟨Zx hb h.1,Zx hb h.2.1,Zx hb h.2.2.1,Zx hb h.2.2.2.1,Zx hb h.2.2.2.2.1,Zx hb h.2.2.2.2.2.1,Zx hb h.2.2.2.2.2.2⟩
theorem keepG8(hb:Bw u u')(h:(Kc u Q 0 (Vi L)∧Kc u Q 1 (Vi H)∧Kc u Q 2 (Vi N)∧Kc u Q 3 (Vi P)∧Kc u Q 4 (Vi M)∧Kc u Q 5 (Vi R)∧Kc u Q 6 (Vi y))∧Bw w u):(Kc u' Q 0 (Vi L)∧Kc u' Q 1 (Vi H)∧Kc u' Q 2 (Vi N)∧Kc u' Q 3 (Vi P)∧Kc u' Q 4 (Vi M)∧Kc u' Q 5 (Vi R)∧Kc u' Q 6 (Vi y))∧Bw w u':=⟨B7.later h.1 hb,Zc h.2 hb⟩
theorem Xp{i:Nat}{c:Value}(hQ:B≠Q)(h:Kc w Q i c):(w.setCell (Ad B j) v).cell? (Ad Q i)=some c:=by
 rw[World.cell?_setCell_other _ _ _ _ (fun e=>hQ (congrArg Addr.block e))];exact h
theorem keepG8s(hQ:w.heap.size+1≠Q)(h:(Kc u Q 0 (Vi L)∧Kc u Q 1 (Vi H)∧Kc u Q 2 (Vi N)∧Kc u Q 3 (Vi P)∧Kc u Q 4 (Vi M)∧Kc u Q 5 (Vi R)∧Kc u Q 6 (Vi y))∧Bw w u):((u.setCell (Ad (w.heap.size+1) j) v).cell? (Ad Q 0)=some (Vi L)∧(u.setCell (Ad (w.heap.size+1) j) v).cell? (Ad Q 1)=some (Vi H)∧(u.setCell (Ad (w.heap.size+1) j) v).cell? (Ad Q 2)=some (Vi N)∧(u.setCell (Ad (w.heap.size+1) j) v).cell? (Ad Q 3)=some (Vi P)∧(u.setCell (Ad (w.heap.size+1) j) v).cell? (Ad Q 4)=some (Vi M)∧(u.setCell (Ad (w.heap.size+1) j) v).cell? (Ad Q 5)=some (Vi R)∧(u.setCell (Ad (w.heap.size+1) j) v).cell? (Ad Q 6)=some (Vi y))∧Bw w (u.setCell (Ad (w.heap.size+1) j) v):=
 ⟨⟨Xp hQ h.1.1,Xp hQ h.1.2.1,Xp hQ h.1.2.2.1,Xp hQ h.1.2.2.2.1,Xp hQ h.1.2.2.2.2.1,Xp hQ h.1.2.2.2.2.2.1,Xp hQ h.1.2.2.2.2.2.2⟩,h.2.setCell (by simp) _⟩
theorem keepG9(hb:Bw u u')(h:(Kc u w.heap.size 0 (Vi L)∧Kc u w.heap.size 1 (Vi H)∧Kc u w.heap.size 2 (Vi N)∧Kc u w.heap.size 3 (Vi P)∧Kc u w.heap.size 4 (Vi M)∧Kc u w.heap.size 5 (Vi R))∧(Kc u Q 0 (Vi L)∧Kc u Q 1 (Vi H)∧Kc u Q 2 (Vi N)∧Kc u Q 3 (Vi P)∧Kc u Q 4 (Vi M)∧Kc u Q 5 (Vi R)∧Kc u Q 6 (Vi y))∧(Kc u (w.heap.size+1) 0 (Vi 0)∧Kc u (w.heap.size+1) 1 (Vi 0)∧u.frozen? (Ad (w.heap.size+1) 0)=false∧u.frozen? (Ad (w.heap.size+1) 1)=false)∧Bw w u):(Kc u' w.heap.size 0 (Vi L)∧Kc u' w.heap.size 1 (Vi H)∧Kc u' w.heap.size 2 (Vi N)∧Kc u' w.heap.size 3 (Vi P)∧Kc u' w.heap.size 4 (Vi M)∧Kc u' w.heap.size 5 (Vi R))∧(Kc u' Q 0 (Vi L)∧Kc u' Q 1 (Vi H)∧Kc u' Q 2 (Vi N)∧Kc u' Q 3 (Vi P)∧Kc u' Q 4 (Vi M)∧Kc u' Q 5 (Vi R)∧Kc u' Q 6 (Vi y))∧(Kc u' (w.heap.size+1) 0 (Vi 0)∧Kc u' (w.heap.size+1) 1 (Vi 0)∧u'.frozen? (Ad (w.heap.size+1) 0)=false∧u'.frozen? (Ad (w.heap.size+1) 1)=false)∧Bw w u':=⟨B6.later h.1 hb,B7.later h.2.1 hb,r2_later h.2.2.1 hb,Zc h.2.2.2 hb⟩
theorem B7.new(w:World)(L H N P M R x:Int)(t:TypeId):B7 (w.alloc (.cells #[Vi L,Vi H,Vi N,Vi P,Vi M,Vi R,Vi x] t)) w.heap.size L H N P M R x:=by
 refine⟨?_,?_,?_,?_,?_,?_,?_⟩<;>simp[go_sem]
theorem gmE_ok{q:Int}(he:gmE L H N P M R q=0):GOK L H N P M R∧-M≤q∧q≤M:=by
 have he1:grE L H N P M R=0:=by unfold gmE at he;split at he<;>simp_all
 have hs:betw q (-M) M=true:=by
  unfold gmE at he;rw[if_pos he1] at he
  by_cases h:betw q (-M) M=true
  · exact h
  · rw[if_neg h] at he;cases he
 exact⟨grE_ok he1,(Z0 hs).1,(Z0 hs).2⟩
theorem gBounds_ok(L H N P M R x q:Int)(he:gmE L H N P M R q=0)(w:World):
 Calls prog 219 #[.agg #[Vi L,Vi H,Vi N,Vi P,Vi M,Vi R],Vi x,Vi q] w fun e w'=>(∃a b,e=.returned (.tuple #[.agg #[Vi (-a),Vi b],.nilIface])∧IsHi R P (-Yp M R q) (-Yj M R q) (Ze x (-2000000) 2000000-N-L) a∧IsHi R P (Yj M R q) (Yp M R q) (H-N-Ze x (-2000000) 2000000) b)∧Bw w w':=by
 have hc:=checkMove_any L H N P M R q;rw[he,Z2] at hc;obtain⟨g,k0,k1⟩:=gmE_ok he;have HX:=Za (GS.new w L H N P M R);have gg:=g;obtain⟨⟨l0,l1,h0,h1,n0,n1,p0,p1,m0,m1,r0,r1⟩,pm,pr,room⟩:=g;have hcl:=Yu x (-2000000) 2000000
 have x0:-2000000≤Ze x (-2000000) 2000000:=by unfold Ze;split<;>(try split)<;>(try split)<;>omega
 have x1:Ze x (-2000000) 2000000≤2000000:=by unfold Ze;split<;>(try split)<;>(try split)<;>omega
 have cn:=can_le r0 m0 k0 k1;have c0:=canLo_or M R q
 have mx:∀ts t w,(Builtin.max_ ts t #[Vi (q-R),Vi (-M)]).run prog w=.ok (Vi (Yj M R q)) w:=fun ts t w=>by rw[run_maxG];congr 2;unfold Yj;split<;>split<;>congr 1<;>omega
 have mn:∀ts t w,(Builtin.min_ ts t #[Vi (q+R),Vi M]).run prog w=.ok (Vi (Yp M R q)) w:=fun ts t w=>by rw[run_minG];congr 2;unfold Yp;split<;>split<;>congr 1<;>omega
 have v1:=Wr (q-R);have v2:=Wr (q+R);generalize Ze x (-2000000) 2000000=y at *;generalize Yj M R q=lo at *;generalize Yp M R q=hi at *;obtain⟨cn0,cn1,cn2,cn3,cn4⟩:=cn;have v3:=Wr (-M);have v4:=Wr (-hi);have v5:=Wr (-lo);have hA:=highest_any 243 L H N P M R y (-hi) (-lo) (y-N-L) r0 (by omega) (by omega) (by omega) (enters_of func243 (by kernel_rfl) rfl) (stopsLo_any L H N P M R y gg.toGR x0 x1);have hB:=highest_any 244 L H N P M R y lo hi (H-N-y) r0 (by omega) (by omega) (by omega) (enters_of func244 (by kernel_rfl) rfl) (stopsHi_any L H N P M R y gg.toGR x0 x1);clear he room gg c0
 go_enter func219,ntmps219
 go_upto_region 4 with(go_at_call 241;refine Sb (hc _) fun w1 hb1=>?_;have HX:=Za (HX.out.later hb1);obtain⟨⟨q0,q1,q2,q3,q4,q5⟩,⟨z0,z1,f0,f1⟩,_⟩:=HX.out;clear hb1);have S0:(Kc w1 w.heap.size 0 (Vi L)∧Kc w1 w.heap.size 1 (Vi H)∧Kc w1 w.heap.size 2 (Vi N)∧Kc w1 w.heap.size 3 (Vi P)∧Kc w1 w.heap.size 4 (Vi M)∧Kc w1 w.heap.size 5 (Vi R))∧(Kc w1 (w.heap.size+1) 0 (Vi 0)∧Kc w1 (w.heap.size+1) 1 (Vi 0)∧w1.frozen? (Ad (w.heap.size+1) 0)=false∧w1.frozen? (Ad (w.heap.size+1) 1)=false)∧Bw w w1:=HX.out;have Z:=Za S0
 go_region_held3 (fun u=>(Kc u w.heap.size 0 (Vi L)∧Kc u w.heap.size 1 (Vi H)∧Kc u w.heap.size 2 (Vi N)∧Kc u w.heap.size 3 (Vi P)∧Kc u w.heap.size 4 (Vi M)∧Kc u w.heap.size 5 (Vi R))∧(Kc u (w.heap.size+1) 0 (Vi 0)∧Kc u (w.heap.size+1) 1 (Vi 0)∧u.frozen? (Ad (w.heap.size+1) 0)=false∧u.frozen? (Ad (w.heap.size+1) 1)=false)∧Bw w u)
  (first
   |(with_reducible assumption)
   |(with_reducible apply keepGS;with_reducible assumption;with_reducible assumption)
   |(refine keepGS ?_ Z.out;exact(Below.refl _ _).drew)
   |(refine keepGS ?_ Z.out;exact Zb _ _)
   |(refine keepGS ?_ Z.out;exact(Zb _ _).drew))
  (first
   |(go_at_call 172;refine(hcl _).mono ?_;rintro e w' ⟨rfl,rfl⟩))
 all_goals
  rename_i hH
  clear hH Z S0 q0 q1 q2 q3 q4 q5 z0 z1 f0 f1;have S1:(fun Q u=>(Kc u w.heap.size 0 (Vi L)∧Kc u w.heap.size 1 (Vi H)∧Kc u w.heap.size 2 (Vi N)∧Kc u w.heap.size 3 (Vi P)∧Kc u w.heap.size 4 (Vi M)∧Kc u w.heap.size 5 (Vi R))∧(Kc u Q 0 (Vi L)∧Kc u Q 1 (Vi H)∧Kc u Q 2 (Vi N)∧Kc u Q 3 (Vi P)∧Kc u Q 4 (Vi M)∧Kc u Q 5 (Vi R)∧Kc u Q 6 (Vi y))∧(Kc u (w.heap.size+1) 0 (Vi 0)∧Kc u (w.heap.size+1) 1 (Vi 0)∧u.frozen? (Ad (w.heap.size+1) 0)=false∧u.frozen? (Ad (w.heap.size+1) 1)=false)∧Bw w u) w1.heap.size (w1.alloc (.cells #[Vi L,Vi H,Vi N,Vi P,Vi M,Vi R,Vi y] 337)).drew:=
   ⟨(HX.out.later (Zb _ _).drew).1,(B7.new w1 L H N P M R y 337).later (Below.refl _ _).drew,(HX.out.later (Zb _ _).drew).2.1,(HX.out.later (Zb _ _).drew).2.2⟩
  generalize (w1.alloc (.cells #[Vi L,Vi H,Vi N,Vi P,Vi M,Vi R,Vi y] 337)).drew=w2 at*
  have hQ:w.heap.size+1≠w1.heap.size:=by have:=World.block_lt_of_cell? w1 ⟨w.heap.size+1,0,none⟩ HX.out.2.1.1;simp at this;omega
  generalize w1.heap.size=Q at *;have Z:=Za S1;clear HX S1
  go_upto_region 5 with fail;obtain⟨⟨q0,q1,q2,q3,q4,q5⟩,_⟩:=Z.out;have S0:(Kc w2 w.heap.size 0 (Vi L)∧Kc w2 w.heap.size 1 (Vi H)∧Kc w2 w.heap.size 2 (Vi N)∧Kc w2 w.heap.size 3 (Vi P)∧Kc w2 w.heap.size 4 (Vi M)∧Kc w2 w.heap.size 5 (Vi R))∧(Kc w2 Q 0 (Vi L)∧Kc w2 Q 1 (Vi H)∧Kc w2 Q 2 (Vi N)∧Kc w2 Q 3 (Vi P)∧Kc w2 Q 4 (Vi M)∧Kc w2 Q 5 (Vi R)∧Kc w2 Q 6 (Vi y))∧(Kc w2 (w.heap.size+1) 0 (Vi 0)∧Kc w2 (w.heap.size+1) 1 (Vi 0)∧w2.frozen? (Ad (w.heap.size+1) 0)=false∧w2.frozen? (Ad (w.heap.size+1) 1)=false)∧Bw w w2:=Z.out
  go_region_held3 (fun u=>(Kc u w.heap.size 0 (Vi L)∧Kc u w.heap.size 1 (Vi H)∧Kc u w.heap.size 2 (Vi N)∧Kc u w.heap.size 3 (Vi P)∧Kc u w.heap.size 4 (Vi M)∧Kc u w.heap.size 5 (Vi R))∧(Kc u Q 0 (Vi L)∧Kc u Q 1 (Vi H)∧Kc u Q 2 (Vi N)∧Kc u Q 3 (Vi P)∧Kc u Q 4 (Vi M)∧Kc u Q 5 (Vi R)∧Kc u Q 6 (Vi y))∧(Kc u (w.heap.size+1) 0 (Vi 0)∧Kc u (w.heap.size+1) 1 (Vi 0)∧u.frozen? (Ad (w.heap.size+1) 0)=false∧u.frozen? (Ad (w.heap.size+1) 1)=false)∧Bw w u)
   (first
    |(with_reducible assumption)
    |(with_reducible apply keepG9;with_reducible assumption;with_reducible assumption)
    |(refine keepG9 ?_ Z.out;exact(Below.refl _ _).drew))
   (fail)
  all_goals
   rename_i hH
   clear hH S0 q0 q1 q2 q3 q4 q5;have S1:(fun u=>(Kc u w.heap.size 0 (Vi L)∧Kc u w.heap.size 1 (Vi H)∧Kc u w.heap.size 2 (Vi N)∧Kc u w.heap.size 3 (Vi P)∧Kc u w.heap.size 4 (Vi M)∧Kc u w.heap.size 5 (Vi R))∧(Kc u Q 0 (Vi L)∧Kc u Q 1 (Vi H)∧Kc u Q 2 (Vi N)∧Kc u Q 3 (Vi P)∧Kc u Q 4 (Vi M)∧Kc u Q 5 (Vi R)∧Kc u Q 6 (Vi y))∧(Kc u (w.heap.size+1) 0 (Vi 0)∧Kc u (w.heap.size+1) 1 (Vi 0)∧u.frozen? (Ad (w.heap.size+1) 0)=false∧u.frozen? (Ad (w.heap.size+1) 1)=false)∧Bw w u) w2.drew:=keepG9 (Below.refl _ _).drew Z.out;generalize w2.drew=w3 at *;clear Z;have Z:=Za S1;clear S1
   go_upto_region 6 with fail;obtain⟨_,⟨q0,q1,q2,q3,q4,q5,q6⟩,⟨z0,z1,f0,f1⟩,_⟩:=Z.out;have S0:(Kc w3 Q 0 (Vi L)∧Kc w3 Q 1 (Vi H)∧Kc w3 Q 2 (Vi N)∧Kc w3 Q 3 (Vi P)∧Kc w3 Q 4 (Vi M)∧Kc w3 Q 5 (Vi R)∧Kc w3 Q 6 (Vi y))∧Bw w w3:=⟨Z.out.2.1,Z.out.2.2.2⟩
   go_region_held3 (fun u=>(Kc u Q 0 (Vi L)∧Kc u Q 1 (Vi H)∧Kc u Q 2 (Vi N)∧Kc u Q 3 (Vi P)∧Kc u Q 4 (Vi M)∧Kc u Q 5 (Vi R)∧Kc u Q 6 (Vi y))∧Bw w u)
    (first
     |(with_reducible assumption)
     |(with_reducible apply keepG8;with_reducible assumption;with_reducible assumption)
     |(refine keepG8s ?_ (keepG8s ?_ ?_);with_reducible assumption;with_reducible assumption;with_reducible assumption)
     |(refine keepG8 ?_ ⟨Z.out.2.1,Z.out.2.2.2⟩;exact(Below.refl _ _).drew))
    (first
     |((first|go_at_call_of 242 (Vi (-hi))|go_at_call_of 242 (Value.int .i64 (-hi)));refine(hA _).mono ?_;rintro e w' ⟨⟨a,rfl,ha⟩,hb⟩;have Ha:=Za ha;have va:IntKind.i64.wrap (-a)=-a:=Xo (by have:=ha.2.1;omega) (by have:=ha.1;omega);have ya0:w'.cell? (Ad (w.heap.size+1) 0)=some (Vi 0):=Zx hb (by first|with_reducible assumption|exact z0);have yaf0:w'.frozen? (Ad (w.heap.size+1) 0)=false:=Wa hb (by first|with_reducible assumption|exact z0) (by first|with_reducible assumption|exact f0);have ya1:w'.cell? (Ad (w.heap.size+1) 1)=some (Vi 0):=Zx hb (by first|with_reducible assumption|exact z1);have yaf1:w'.frozen? (Ad (w.heap.size+1) 1)=false:=Wa hb (by first|with_reducible assumption|exact z1) (by first|with_reducible assumption|exact f1);clear ha)
     |((first|go_at_call_of 242 (Vi lo)|go_at_call_of 242 (Value.int .i64 lo));refine(hB _).mono ?_;rintro e w' ⟨⟨b,rfl,hhb⟩,hb⟩;have Hb:=Za hhb;have yb0:w'.cell? (Ad (w.heap.size+1) 0)=some (Vi 0):=Zx hb (by first|with_reducible assumption|exact z0);have ybf0:w'.frozen? (Ad (w.heap.size+1) 0)=false:=Wa hb (by first|with_reducible assumption|exact z0) (by first|with_reducible assumption|exact f0);have yb1:w'.cell? (Ad (w.heap.size+1) 1)=some (Vi 0):=Zx hb (by first|with_reducible assumption|exact z1);have ybf1:w'.frozen? (Ad (w.heap.size+1) 1)=false:=Wa hb (by first|with_reducible assumption|exact z1) (by first|with_reducible assumption|exact f1);clear hhb))
   all_goals
    rename_i hH
    have HB:=Za hH.2;clear hH;go_wp2_with fail;refine bodyPost_ret (v:=.tuple #[.agg #[Vi (-a),Vi b],.nilIface]) ?_ rfl ⟨⟨a,b,rfl,Ha.out,Hb.out⟩,HB.out⟩
    simp[results,results219,go_sem,yb0,yb1]
theorem keepGBs(h:(Kc u w.heap.size 0 (Vi L)∧Kc u w.heap.size 1 (Vi H)∧Kc u w.heap.size 2 (Vi N)∧Kc u w.heap.size 3 (Vi P)∧Kc u w.heap.size 4 (Vi M)∧Kc u w.heap.size 5 (Vi R))∧Bw w u):((u.setCell (Ad (w.heap.size+1) j) v).cell? (Ad w.heap.size 0)=some (Vi L)∧(u.setCell (Ad (w.heap.size+1) j) v).cell? (Ad w.heap.size 1)=some (Vi H)∧(u.setCell (Ad (w.heap.size+1) j) v).cell? (Ad w.heap.size 2)=some (Vi N)∧(u.setCell (Ad (w.heap.size+1) j) v).cell? (Ad w.heap.size 3)=some (Vi P)∧(u.setCell (Ad (w.heap.size+1) j) v).cell? (Ad w.heap.size 4)=some (Vi M)∧(u.setCell (Ad (w.heap.size+1) j) v).cell? (Ad w.heap.size 5)=some (Vi R))∧Bw w (u.setCell (Ad (w.heap.size+1) j) v):=by
 have hQ:w.heap.size+1≠w.heap.size:=by omega
 exact⟨⟨Xp hQ h.1.1,Xp hQ h.1.2.1,Xp hQ h.1.2.2.1,Xp hQ h.1.2.2.2.1,Xp hQ h.1.2.2.2.2.1,Xp hQ h.1.2.2.2.2.2⟩,h.2.setCell (by simp) _⟩
theorem refBounds_any(L H N P M R x q:Int)(g:GOK L H N P M R)(k0:-M≤q)(k1:q≤M)(w:World):
 Calls prog 97 #[.agg #[Vi L,Vi H,Vi N,Vi P,Vi M,Vi R],Vi x,Vi q] w fun e w'=>(∃a b,e=.returned (.agg #[Vi (-a),Vi b])∧IsHi R P (-Yp M R q) (-Yj M R q) (Ze x (-2000000) 2000000-N-L) a∧IsHi R P (Yj M R q) (Yp M R q) (H-N-Ze x (-2000000) 2000000) b)∧Bw w w':=by
 have HX:=Za (GS.new w L H N P M R);obtain⟨⟨l0,l1,h0,h1,n0,n1,p0,p1,m0,m1,r0,r1⟩,pm,pr,room⟩:=g;have hcl:=Yr x (-2000000) 2000000 (by omega)
 have x0:-2000000≤Ze x (-2000000) 2000000:=by unfold Ze;split<;>(try split)<;>(try split)<;>omega
 have x1:Ze x (-2000000) 2000000≤2000000:=by unfold Ze;split<;>(try split)<;>(try split)<;>omega
 have cn:=can_le r0 m0 k0 k1
 have mx:∀ts t w,(Builtin.max_ ts t #[Vi (-M),Vi (q-R)]).run prog w=.ok (Vi (Yj M R q)) w:=fun ts t w=>by rw[run_maxG];congr 2;unfold Yj;split<;>split<;>congr 1<;>omega
 have mn:∀ts t w,(Builtin.min_ ts t #[Vi M,Vi (q+R)]).run prog w=.ok (Vi (Yp M R q)) w:=fun ts t w=>by rw[run_minG];congr 2;unfold Yp;split<;>split<;>congr 1<;>omega
 generalize Ze x (-2000000) 2000000=y at *;generalize Yj M R q=lo at *;generalize Yp M R q=hi at *;obtain⟨cn0,cn1,cn2,cn3,cn4⟩:=cn;have v1:=Wr (q-R);have v2:=Wr (q+R);have v3:=Wr (-M);have v4:=Wr (-hi);have v5:=Wr (-lo);have v6:=Wr (y-N);have v7:=Wr (y-N-L);have v8:=Wr (H-N);have v9:=Wr (H-N-y);have hA:=Zhx L H N P M R (-hi) (-lo) (y-N-L) p0 p1 r0 (by omega) (by omega) (by omega) (by omega);have hB:=Zhx L H N P M R lo hi (H-N-y) p0 p1 r0 (by omega) (by omega) (by omega) (by omega);clear room
 go_enter func97,ntmps97
 go_upto_region 2 with(go_at_call 94;refine Sm (hcl _) ?_);generalize (w.alloc (.cells #[Vi L,Vi H,Vi N,Vi P,Vi M,Vi R] 99)).alloc (.cells #[Vi 0,Vi 0] 105)=w1 at *;obtain⟨⟨q0,q1,q2,q3,q4,q5⟩,_⟩:=HX.out;have S0:(Kc w1 w.heap.size 0 (Vi L)∧Kc w1 w.heap.size 1 (Vi H)∧Kc w1 w.heap.size 2 (Vi N)∧Kc w1 w.heap.size 3 (Vi P)∧Kc w1 w.heap.size 4 (Vi M)∧Kc w1 w.heap.size 5 (Vi R))∧Bw w w1:=⟨HX.out.1,HX.out.2.2⟩;have Z:=Za S0
 go_region_held3 (fun u=>(Kc u w.heap.size 0 (Vi L)∧Kc u w.heap.size 1 (Vi H)∧Kc u w.heap.size 2 (Vi N)∧Kc u w.heap.size 3 (Vi P)∧Kc u w.heap.size 4 (Vi M)∧Kc u w.heap.size 5 (Vi R))∧Bw w u)
  (first
   |(with_reducible assumption)
   |(with_reducible apply Xs;with_reducible assumption;with_reducible assumption)
   |(refine Xs ?_ Z.out;exact(Below.refl _ _).drew))
  (fail)
 all_goals
  rename_i hH
  clear hH S0 Z q0 q1 q2 q3 q4 q5;have S1:=Za (HX.out.later (Below.refl _ _).drew);generalize w1.drew=w3 at *;clear HX
  go_upto_region 3 with fail;obtain⟨⟨q0,q1,q2,q3,q4,q5⟩,⟨z0,z1,f0,f1⟩,_⟩:=S1.out;have S0:(Kc w3 w.heap.size 0 (Vi L)∧Kc w3 w.heap.size 1 (Vi H)∧Kc w3 w.heap.size 2 (Vi N)∧Kc w3 w.heap.size 3 (Vi P)∧Kc w3 w.heap.size 4 (Vi M)∧Kc w3 w.heap.size 5 (Vi R))∧Bw w w3:=⟨S1.out.1,S1.out.2.2⟩
  go_region_held3 (fun u=>(Kc u w.heap.size 0 (Vi L)∧Kc u w.heap.size 1 (Vi H)∧Kc u w.heap.size 2 (Vi N)∧Kc u w.heap.size 3 (Vi P)∧Kc u w.heap.size 4 (Vi M)∧Kc u w.heap.size 5 (Vi R))∧Bw w u)
   (first
    |(with_reducible assumption)
    |(with_reducible apply Xs;with_reducible assumption;with_reducible assumption)
    |(refine keepGBs (keepGBs ?_);with_reducible assumption)
    |(refine Xs ?_ ⟨S1.out.1,S1.out.2.2⟩;exact(Below.refl _ _).drew))
   (first
    |((first|go_at_call_of 145 (Vi (-hi))|go_at_call_of 145 (Value.int .i64 (-hi)));refine(hA _).mono ?_;rintro e w' ⟨⟨a,rfl,ha⟩,hb⟩;have Ha:=Za ha;have va:IntKind.i64.wrap (-a)=-a:=Xo (by have:=ha.2.1;omega) (by have:=ha.1;omega);have ya0:w'.cell? (Ad (w.heap.size+1) 0)=some (Vi 0):=Zx hb (by first|with_reducible assumption|exact z0);have yaf0:w'.frozen? (Ad (w.heap.size+1) 0)=false:=Wa hb (by first|with_reducible assumption|exact z0) (by first|with_reducible assumption|exact f0);have ya1:w'.cell? (Ad (w.heap.size+1) 1)=some (Vi 0):=Zx hb (by first|with_reducible assumption|exact z1);have yaf1:w'.frozen? (Ad (w.heap.size+1) 1)=false:=Wa hb (by first|with_reducible assumption|exact z1) (by first|with_reducible assumption|exact f1);clear ha)
    |((first|go_at_call_of 145 (Vi lo)|go_at_call_of 145 (Value.int .i64 lo));refine(hB _).mono ?_;rintro e w' ⟨⟨b,rfl,hhb⟩,hb⟩;have Hb:=Za hhb;have yb0:w'.cell? (Ad (w.heap.size+1) 0)=some (Vi 0):=Zx hb (by first|with_reducible assumption|exact z0);have ybf0:w'.frozen? (Ad (w.heap.size+1) 0)=false:=Wa hb (by first|with_reducible assumption|exact z0) (by first|with_reducible assumption|exact f0);have yb1:w'.cell? (Ad (w.heap.size+1) 1)=some (Vi 0):=Zx hb (by first|with_reducible assumption|exact z1);have ybf1:w'.frozen? (Ad (w.heap.size+1) 1)=false:=Wa hb (by first|with_reducible assumption|exact z1) (by first|with_reducible assumption|exact f1);clear hhb))
  all_goals
   rename_i hH
   have HB:=Za hH.2;clear hH;go_wp2_with fail;refine bodyPost_ret (v:=.agg #[Vi (-a),Vi b]) ?_ rfl ⟨⟨a,b,rfl,Ha.out,Hb.out⟩,HB.out⟩
   simp[results,results97,go_sem,yb0,yb1]
end Go.Proofs.YtnfdfiholcelaaaGreatDoor
