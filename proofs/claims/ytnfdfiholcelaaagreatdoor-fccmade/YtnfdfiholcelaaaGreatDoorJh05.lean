import Derived.RangeFuncSeq
import Derived.RangeFuncGives
import Derived.RangeFuncBound
import Derived.RangeFuncCalls
import Derived.Shelf.Abstract
import Derived.Shelf.RegionOpen
import Derived.Sort.MapsRangeIn
import Derived.WalkKit
import Derived.OwnWalkIn
import Derived.TacticsInMore
import Derived.LoopNIn
import Derived.LoopIn
import Derived.RangeFuncFrom
import Derived.Shelf.SlIter.Collect
import Derived.Shelf.SlSortCmp.NoneTotal
import Derived.Shelf.SlSorted.Search
import Derived.Deep.RegionHeld3
import Derived.Sort.OwnSorted
import Derived.Lib.BitFns
import Derived.Laws.BitsAllLaws
import Derived.Laws.Bits128
import Derived.Test.YtnfdfiholcelaaaGreatDoorJh00
import Derived.Test.YtnfdfiholcelaaaGreatDoorJh04
set_option maxRecDepth 100000
set_option maxHeartbeats 20000000
namespace Go.Proofs.YtnfdfiholcelaaaGreatDoor
open Go.RowKit Go.Shelf Plain Go.Maps Tryz
attribute [local go_sem] Oper.semAt_some
theorem map_under:prog.underlying 238=some (.map 241 161):=by kernel_rfl
theorem vals1_in{H:Type}(n:Nat)(hn:1≤n)(l Bm b nn:Nat)(D0:DataW H)(ls:List Rd)(hrep:RepM D0 ls)(hwf:∀z∈ls,wfR z)(hso:ls.Pairwise (fun x y=>rlt x y=true))(J:List Rd→World→Prop)
 (hY:∀pre x W,J pre W→pre.length<ls.length→YieldAt Fence.wide (n-1) prog l #[rdV x] W fun e W'=>e=.returned (.bool true)∧J (pre++[x]) W'∧KeepsWalks W W')
 (W:World) (hJ:AbidesFrom W.heap.size J) (hm:W.cell? (Ad Bm 0)=some (.map (some b))) (hown:W.ownsMap prog 241 (rdRead (H:=H)) b nn D0) (h0:J [] W):
 CallsIn Fence.wide n prog 204 #[.func (.yield l) #[] #[],.pointer (some (Ad Bm 0))] W fun e W'=>(∃v,e=.returned v)∧∃ss:List Rd,ss.Perm ls∧J ss W':=by
 have hsz:=hrep.size;refine callsIn_of_wp func204 rfl trivial ?_ rfl;simp only[ntmps204,List.size_toArray,List.length_cons,List.length_nil,Nat.reduceAdd,Nat.reduceSub,Array.replicate_succ,Array.replicate_zero,List.push_toArray,List.append_toArray,List.nil_append,List.cons_append]
 gi_wp2_with (first
  |(gi_at_range;refine wpListIn_range_own _ rfl _ 238 rfl 241 161 Zik map_under _ b nn _ rfl hown ?_;intro w0 hrg0 hg0 hs0)
  |gi_in)
 go_frame
 gi_loopw [7] (fun _ wr=>∃(left:Lit→Bool) (cnt:Nat) (ss:List Rd),wr.ranges prog 241 (rdRead (H:=H)) b W.heap.size nn D0 left cnt∧ss.length+cnt≤ls.length∧(ColR D0 left ss∧∀r∈ss,r∈ls)∧J ss wr)
  (fun _ wr=>wr.rangeLeft b W.heap.size)
 case atStart=>
  exact⟨_,_,[],hrg0,by simp[hsz],⟨ColR.start D0,by simp⟩,hJ [] W w0 none h0 hg0 (fun r e=>by cases e)⟩
 case round=>
  obtain⟨left,cnt,ss,hrg,hcs,⟨hC,hin⟩,hJs⟩:=hrel
  gi_wp2_with (first
   |(gi_at_next;refine wpListIn_next_ranges _ rfl _ rfl 241 Zik (rdRead (H:=H)) (id:Value→Value) (fun r:Rd=>Value.agg #[Vi r.1,Vi r.2.1,Vi r.2.2.1,Vi r.2.2.2]) (fun key kl hk=>⟨key,rfl⟩) (fun v y h=>by obtain⟨r,hr,_⟩:=rdRead_inv h;exact⟨r,hr⟩) b W.heap.size nn _ _ _ rfl hrg ?_ ?_)
   |gi_in)
  · intro hc0 hl0
    gi_wp2
    go_end0
    exact⟨⟨_,rfl⟩,ss,hC.perm hrep hwf hso hin hl0,hJs⟩
  · intro x c1 c2 c3 c4 kl yd yp w2 cnt2 hkey hlk hv hat hrg2 hlt hg2 hs2 hen;obtain⟨c,hcc⟩:∃c:Rd,c=(c1,c2,c3,c4):=⟨_,rfl⟩;obtain⟨c',hc',hy⟩:=rdRead_inv hv
    obtain rfl:c=c':=by rw[hcc];exact rdV_inj hc'
    obtain⟨rfl,rfl,rfl,rfl⟩:c1=c.1∧c2=c.2.1∧c3=c.2.2.1∧c4=c.2.2.2:=by rw[hcc];exact⟨rfl,rfl,rfl,rfl⟩
    clear hcc;have hat:∀zd,D0.atKey kl zd=datR c:=fun zd=>(hat zd).trans (congrArg Prod.fst hy);obtain⟨hcl,rfl⟩:=hrep.found hat;have hJ2:J ss w2:=hJ ss wr w2 (some W.heap.size) hJs hg2 (fun r e=>by cases e;exact⟨Nat.le_refl _,hrg.iter_walk⟩);have hJ2a:J ss (w2.alloc (.cells #[Vi c.1,Vi c.2.1,Vi c.2.2.1,Vi c.2.2.2] 161)):=hJ _ _ _ none hJ2 (World.grownBy_alloc w2 _ none) (fun r e=>by cases e);obtain⟨fn,tmps,assign,body,hy,hR⟩:=hY ss c _ hJ2a (by omega);have hrg2:=hrg2.alloc (.cells #[Vi c.1,Vi c.2.1,Vi c.2.2.1,Vi c.2.2.2] 161)
    unfold rdV at hy
    clear hs2 hv hc'
    gi_wp2
    refine hR.mono ?_;rintro e W3 ⟨rfl,hJ3,hk3⟩
    gi_wp2
    have hrg3:=hrg2.of_walks hk3;go_roundw
    case rel=>exact⟨_,cnt2,ss++[c],hrg3,by simp;omega,⟨hC.step hlk,fun r hr=>by rcases List.mem_append.1 hr with hr|hr;exact hin r hr;simp at hr;subst hr;exact hcl⟩,hJ3⟩
    case measure=>rw[hrg3.left_eq,hrg.left_eq];exact hlt
end Go.Proofs.YtnfdfiholcelaaaGreatDoor
namespace Go.Proofs.YtnfdfiholcelaaaGreatDoor
open Go.RowKit Tryz
def boxPost{α:Type}(I:List α→World→Prop)(xs:List α)(W:World):Exit→Act→World→Prop
 |.normal,_,W'=>KeepsOthers W W'∧I xs W'
 |_,_,_=>False
theorem keeps_walks{W W':World}(h:KeepsOthers W W'):KeepsWalks W W':=⟨h.size,fun k o hk hw=>h.same k o hk (Obj.not_cells_of_walk hw)⟩
theorem rangeFunc_box{α:Type}{P:Program}{F:Fence}{n:Nat}{g:Operand}{ps:Array Tmp}{assign body:Code}{Q:Exit→Act→World→Prop}{a:Act}{w:World}
 (hro:F.round=none) (h1:1≤n) {gf:Nat} {lb:Array Value} (hg:a.eval g=.func (.func gf) #[] lb) (hFg:F.fn gf) (eg:∀args w,(callFunc gf args).run P w=.ok (.enter gf args) w)
 {enc:α→Value} {S:List α→Prop} {N:Nat} (hseq:SeqGives F (n-1) P gf lb enc S N w) (hps:ps.size=1)
 (I:List α→World→Prop) (hI:OwnFrom w.heap.size I) (h0:I [] w) (ob:α→Obj) (a₁:α→Nat→Act)
 (hassign:∀(l:Nat) (x:α) (W:World) (K:Act→World→Prop),K (a₁ x W.heap.size) (W.alloc (ob x))→
  assign.wpIn (F.inRound l) (n-1-1) P (Exit.then K (fun _ _ _=>False)) { tmps:=(ps.zip #[enc x]).foldl (fun t (p,v)=>t.setIfInBounds p v) a.tmps,defers:=[] } W)
 (hbody:∀(l:Nat) (pre:List α) (x:α) (W:World) (b:Nat),W.heap[b]?=some (ob x)→I pre W→pre.length<N→body.wpIn (F.inRound l) (n-1-1) P (boxPost I (pre++[x]) W) (a₁ x b) W)
 (hdone:∀(D:Nat) (xs:List α) (W:World),w.heap.size≤D→S xs→I xs W→W.heap[D]?=some (.deferred (some []))→Q .normal { a with defers:={ target:=.collected D,args:=#[] }::a.defers } W):
 (Code.rangeFunc g ps assign body).wpIn F n P Q a w:=by
 refine wpIn_rangeFunc ?_;intro fn hfn;rw[hro];obtain⟨rc,hrc⟩:∃rc:LoopState→Loop,rc=fun st=>{ state:=st,pending:=none,fn,tmps:=a.tmps,params:=ps,assign,body,defers:=w.heap.size }:=⟨_,rfl⟩;obtain⟨W1,hW1⟩:∃W1,(w.alloc (.deferred (some []))).alloc (.loop (rc .ready))=W1:=⟨_,rfl⟩
 have hL1:W1.heap[w.heap.size+1]?=some (.loop (rc .ready)):=by
  rw[←hW1];have:=World.alloc_heap_new (w.alloc (.deferred (some []))) (.loop (rc .ready));rwa[World.size_alloc] at this
 have hK1:W1.heap[w.heap.size]?=some (.deferred (some [])):=by
  rw[←hW1];exact(Below.heap_alloc _ _ _ (by simp)).trans (World.alloc_heap_new w _)
 have hI1:I [] W1:=by rw[←hW1];exact hI.alloc _ (hI.alloc _ h0)
 have hb1:Below w.heap.size w W1:=by rw[←hW1];exact((Below.refl _ w).alloc (Nat.le_refl _) _).alloc (by simp) _
 refine⟨w.heap.size+1,[{ target:=.collected w.heap.size,args:=#[] }],W1,{ target:=.fn (.func gf) lb,args:=#[.func (.yield (w.heap.size+1)) #[] #[]] },W1,gf,
  #[.func (.yield (w.heap.size+1)) #[] #[]]++lb,W1,?_,?_,?_,?_,fun _=>h1,?_⟩
 · rw[←hW1,hrc];exact run_enterLoop_outer _ _ _ _ _
 · simp only[resolve,hg]
   simp[go_sem]
 · intro f' hf';simp[Target.leads] at hf';subst hf';exact hFg
 · simp[invoke,go_sem,eg]
 · refine(hseq (w.heap.size+1)
    (fun pre W=>I pre W∧W.heap[w.heap.size+1]?=some (.loop (rc .ready))∧W.heap[w.heap.size]?=some (.deferred (some [])))
    W1 hb1 (fun s A B row hs hg' hr=>⟨hI s A B row hs.1 hg' (fun r e=>?_),(grownBy_keeps hg' (fun r e=>(hr r e).2) hs.2.1 rfl).trans hs.2.1,(grownBy_keeps hg' (fun r e=>(hr r e).2) hs.2.2 rfl).trans hs.2.2⟩)
    ?_ ⟨hI1,hL1,hK1⟩).mono ?_
   · obtain⟨hB,o,ho,hw⟩:=hr r e;exact⟨by rw[←hW1] at hB;simp at hB;omega,o,ho,Obj.not_cells_of_walk hw⟩
   · rintro pre x W ⟨hi,hl,hk⟩ hlen;have hlt:w.heap.size+1<W.heap.size:=(Array.getElem?_eq_some_iff.1 hl).1;have hy:=run_yield (P:=P) (args:=#[enc x]) hl (by rw[hrc];simp[hps]);rw[hrc] at hy;have hla:(W.alloc (ob x)).heap[w.heap.size+1]?=some (.loop (rc .ready)):=(Below.heap_alloc _ _ _ hlt).trans hl;have hka:(W.alloc (ob x)).heap[w.heap.size]?=some (.deferred (some [])):=(Below.heap_alloc _ _ _ (by omega)).trans hk;refine⟨fn,_,assign,body,hy,roundIn_of_wpIn hfn (hassign _ x W _ ⟨_,run_beginRound hla (by rw[hrc]),?_⟩)⟩;obtain⟨W2,hW2⟩:∃W2,(W.alloc (ob x)).putObj (w.heap.size+1) (.loop { rc .ready with state:=.busy })=W2:=⟨_,rfl⟩;have hsa:w.heap.size+1<(W.alloc (ob x)).heap.size:=(Array.getElem?_eq_some_iff.1 hla).1
     have hl2:W2.heap[w.heap.size+1]?=some (.loop { rc .ready with state:=.busy }):=by rw[←hW2];exact World.putObj_heap_same hsa
     have hk2:W2.heap[w.heap.size]?=some (.deferred (some [])):=by rw[←hW2];exact(World.putObj_heap_other (by omega)).trans hka
     have hx2:W2.heap[W.heap.size]?=some (ob x):=by rw[←hW2];exact(World.putObj_heap_other (by omega)).trans (World.alloc_heap_new W _)
     have hi2:I pre W2:=by rw[←hW2];exact hI.putObj _ (hI.alloc _ hi) (by omega) hla rfl
     have hw2:KeepsWalks W W2:=by rw[←hW2];exact(KeepsWalks.alloc W (ob x)).trans (KeepsWalks.putObj _ hla rfl)
     rw[hW2];clear hW2;refine wpIn_mono (hbody _ pre x W2 W.heap.size hx2 hi2 hlen) ?_;rintro e a3 W3 hp
     cases e with
     |normal=>
      obtain⟨hk3,hi3⟩:=hp;have hl3:=hk3.same _ _ hl2 rfl;have hd3:=hk3.same _ _ hk2 rfl;have hr:=run_endRound (P:=P) none hl3;refine⟨_,_,hr,rfl,⟨hI.putObj _ hi3 (by omega) hl3 rfl,?_,(World.putObj_heap_other (by omega)).trans hd3⟩,(hw2.trans (keeps_walks hk3)).trans (KeepsWalks.putObj _ hl3 rfl)⟩;rw[World.putObj_heap_same (Array.getElem?_eq_some_iff.1 hl3).1,hrc]
      rfl
     |ret=>exact hp.elim
     |exit id=>exact hp.elim
     |goto t=>exact hp.elim
     |panic ch=>exact hp.elim
     |outgrown=>exact hp.elim
   · rintro e W2 ⟨⟨v,rfl⟩,xs,hS,hi,hl,hk⟩;exact⟨none,_,by have:=run_endLoop (P:=P) hl (by rw[hrc];simp);rw[hrc] at this;exact this,hdone _ xs _ (Nat.le_refl _) hS (hI.putObj _ hi (by omega) hl rfl) ((World.putObj_heap_other (by omega)).trans hk)⟩
end Go.Proofs.YtnfdfiholcelaaaGreatDoor
namespace Go.Proofs.YtnfdfiholcelaaaGreatDoor
open Go.RowKit Go.Shelf Plain Go.Maps Tryz
attribute [local go_sem] Oper.semAt_some
theorem Zbj:prog.underlying 118=some (.slice 161):=by kernel_rfl
theorem rd_info:(prog.info? 161).map (fun i=>(i.zero,i.size,i.bytes))=some (some (.agg #[Vi 0,Vi 0,Vi 0,Vi 0]),4,32):=by kernel_rfl
def rdO(r:Rd):Obj:=.cells #[Vi r.1,Vi r.2.1,Vi r.2.2.1,Vi r.2.2.2] 161
def encL(l:List Rd):List Value:=l.flatMap encR
theorem encL_snoc(l:List Rd)(r:Rd):encL (l++[r])=encL l++encR r:=by simp[encL]
theorem Zbk:∀l:List Rd,(encL l).length=l.length*4
 |[]=>rfl
 |r::t=>by
  have:=Zbk t
  simp[encL,encR] at this⊢
  omega
theorem Zcl(w:World)(r:Rd):∀j u,(encR r)[j]?=some u→(w.alloc (.cells #[Vi r.1,Vi r.2.1,Vi r.2.2.1,Vi r.2.2.2] 161)).cell? ((⟨w.heap.size,0,none⟩:Addr).add j)=some u:=by
 intro j u hj
 match j,hj with
 |0,hj=>simp[encR] at hj;subst hj;simp[go_sem,Addr.add]
 |1,hj=>simp[encR] at hj;subst hj;simp[go_sem,Addr.add]
 |2,hj=>simp[encR] at hj;subst hj;simp[go_sem,Addr.add]
 |3,hj=>simp[encR] at hj;subst hj;simp[go_sem,Addr.add]
 |j+4,hj=>simp[encR] at hj
theorem Zdt(r:Rd):∀u∈encR r,u.oneCell'=true:=by
 intro u hu
 simp[encR] at hu
 rcases hu with rfl|rfl|rfl|rfl<;>rfl
def OwnL(B:Nat)(v:Value)(l:List Rd)(W:World):Prop:=W.ownsRow B 161 4 v l.length (encL l)∧(v=.slice none 0 0↔l=[])
def BoxL(B Bs:Nat)(l:List Rd)(W:World):Prop:=∃v,W.heap[Bs]?=some (.cells #[v] 118 (0,0))∧OwnL B v l W
theorem rd_ne:(118:TypeId)≠161:=by decide
theorem Zhv{W W':World}{row:Option Nat}{base:Nat}{e:TypeId}{size:Nat}{v:Value}{k:Nat}{xs:List Value}(h:W.ownsRow base e size v k xs)(hg:W.grownBy W' row)
 (hrow:∀r,row=some r→∃o:Obj,W.heap[r]?=some o∧o.isCells=false):W'.ownsRow base e size v k xs:=by
 refine h.kept hg ?_
 rcases h.2 with⟨rfl,_⟩|⟨g,cap,cur,rfl,_,hgb,_⟩
 · exact .inl rfl
 · refine .inr fun e'=>?_;obtain⟨o,ho,hw⟩:=hrow g (by simpa[Value.ownBlock] using e'.symm);rw[hgb] at ho;cases ho;cases hw
theorem boxL_own(B Bs:Nat):Own (fun(l:List Rd) W=>BoxL B Bs l W):=fun l W W' row h hg hr=>by
 obtain⟨v,hv,ho,hn⟩:=h;exact⟨v,(grownBy_keeps_cells hg hr hv rfl).trans hv,Zhv ho hg hr,hn⟩
theorem appendSeq_any(gf:Nat)(lb:Array Value)(eg:∀args w,(callFunc gf args).run prog w=.ok (.enter gf args) w)(S:List Rd→Prop)(N:Nat)(hN:N≤1000)(w:World)(hseq:SeqGives Fence.wide 7 prog gf lb rdV S N w):
 Calls prog 235 #[.slice none 0 0,.func (.func gf) #[] lb] w fun e w'=>∃(v:Value) (ss:List Rd),e=.returned v∧S ss∧OwnL w.heap.size v ss w'∧Below w.heap.size w w':=by
 obtain⟨i0,hi,hz0,hz1,hz2⟩:=info_parts rd_info;refine(callsIn_wide (n:=8)).1 ?_;refine callsIn_of_wp_marks func235 rfl trivial ?_ rfl;simp only[ntmps235,List.size_toArray,List.length_cons,List.length_nil,Nat.reduceAdd,Nat.reduceSub,Array.replicate_succ,Array.replicate_zero,List.push_toArray,List.append_toArray,List.nil_append,List.cons_append]
 gi_wp2
 obtain⟨W0,hW0⟩:∃W0,w.alloc (.cells #[.slice none 0 0] 118)=W0:=⟨_,rfl⟩
 have hs0:W0.heap.size=w.heap.size+1:=by rw[←hW0];simp
 have hv0:W0.heap[w.heap.size]?=some (.cells #[.slice none 0 0] 118 (0,0)):=by rw[←hW0];exact World.alloc_heap_new w _
 have hb0:Below w.heap.size w W0:=by rw[←hW0];exact(Below.refl _ w).alloc (Nat.le_refl _) _
 rw[hW0];clear hW0;refine rangeFunc_box (F:=Fence.wide) (n:=8) rfl (by omega) (gf:=gf) (lb:=lb) rfl trivial eg (enc:=rdV) (S:=S) (N:=N) (hseq.later hb0) rfl
  (fun pre W=>BoxL w.heap.size w.heap.size pre W∧Below w.heap.size w W) (OwnFrom.and (Own.from (boxL_own _ _) _) (ownFrom_below (Nat.le_refl _) (by omega)))
  ⟨⟨_,hv0,⟨rfl,.inl ⟨rfl,rfl⟩⟩,by simp⟩,hb0⟩ rdO
  (fun x b=>{ tmps:=#[.slice none 0 0,.func (.func gf) #[] lb,.pointer (some (Ad w.heap.size 0)),undef,.slice none 0 0,.pointer (some (Ad b 0)),.func (.func gf) #[] lb,rdV x,undef,undef,undef,undef,undef],defers:=[] }) ?assign ?body ?done
 case assign=>
  intro l x W K hK;obtain⟨x1,x2,x3,x4⟩:=x
  unfold rdV rdO at hK
  unfold rdV
  gi_wp2
  exact hK
 case body=>
  clear hs0 hv0 hb0;rintro l pre x W b hob ⟨⟨v,hv,hrow,hnil⟩,hbl⟩ hlen;obtain⟨hc,hf⟩:=cell_of_box_a hv
  unfold rdO at hob
  have c0:W.cell? (Ad b 0)=some (Vi x.1):=by simp[World.cell?,hob]
  have c1:W.cell? (Ad b 1)=some (Vi x.2.1):=by simp[World.cell?,hob]
  have c2:W.cell? (Ad b 2)=some (Vi x.2.2.1):=by simp[World.cell?,hob]
  have c3:W.cell? (Ad b 3)=some (Vi x.2.2.2):=by simp[World.cell?,hob]
  have hBlt:w.heap.size<W.heap.size:=(Array.getElem?_eq_some_iff.1 hv).1
  have hml:pre.length+1≤1000:=by omega
  clear hob
  have ne_of:∀{j:Nat} {o:Obj},W.heap[j]?=some o→(∀cur,o≠.cells cur 161 (0,0))→some j≠v.ownBlock:=fun hj hno=>by
   rcases ownsRow_ne_a hrow hj hno with e|e
   · rw[e];simp
   · exact fun e'=>e e'.symm
  have hne:=ne_of hv (fun cur e=>rd_ne (Obj.cells.inj e).2.1);have HOT:∀(W3:World),(W.alloc (.cells #[Vi x.1,Vi x.2.1,Vi x.2.2.1,Vi x.2.2.2] 161)).grownBy W3 v.ownBlock→KeepsOthers W W3:=fun W3 hg=>⟨Nat.le_trans (by simp) hg.size,fun k o hk ho=>(hg.block k (by have:=(Array.getElem?_eq_some_iff.1 hk).1;simp;omega) (ne_of hk (fun cur e=>by subst e;cases ho))).trans ((Below.heap_alloc _ _ k (Array.getElem?_eq_some_iff.1 hk).1).trans hk)⟩;clear ne_of
  unfold rdV
  gi_wp2_with (first
   |(
    gi_at_builtin;refine wpListIn_append_own _ rfl _ _ 118 rfl w.heap.size 161 i0 (.agg #[Vi 0,Vi 0,Vi 0,Vi 0]) 4 32 Zbj hi hz0 hz1 hz2 rfl (by decide) _ _ _ rfl (hrow.alloc _) ⟨W.heap.size,0,none⟩ 1 1 (encR x) rfl rfl (Zcl _ _) (Zdt _) (by unfold maxLen;omega) (by omega) (by simp;omega) ?_;intro v' w3 hown' hg3 hnil3
    have hv3:w3.heap[w.heap.size]?=some (.cells #[v] 118 (0,0)):=(hg3.block w.heap.size (by simp;omega) hne).trans ((Below.heap_alloc _ _ _ hBlt).trans hv);obtain⟨hc3,hf3⟩:=cell_of_box_a hv3
    obtain⟨g',cap',cur',rfl,hrest⟩:∃g' cap' cur',v'=.slice (some (Ad g' 0)) (pre.length+1) cap'∧(w.heap.size≤g'∧w3.heap[g']?=some (.cells cur' 161 (0,0))):=by
     rcases hown'.2 with⟨_,h0⟩|⟨g',cap',cur',h1,h2,h3,_⟩
     · exact absurd h0 (by omega)
     · exact⟨g',cap',cur',h1,h2,h3⟩
    go_frame)
   |gi_in)
  have hg3':(W.alloc (.cells #[Vi x.1,Vi x.2.1,Vi x.2.2.1,Vi x.2.2.2] 161)).grownBy w3 v.ownBlock:=hg3;have hk3:=HOT w3 hg3';have hb3:Below w.heap.size w w3:=(hbl.alloc hbl.size _).grown hg3' (by have:=hbl.size;simp;omega) (fun k e=>(hrow.lt k e).1);have hg4:w3.grownBy (w3.setCell (Ad w.heap.size 0) (.slice (some (Ad g' 0)) (pre.length+1) cap')) (some w.heap.size):=grownBy_setCell0_a _ _ _;refine⟨hk3.trans (KeepsOthers.setCell _ _ _),⟨_,heap_setCell_box_a _ hv3,?_,by simp⟩,hb3.grown hg4 hb3.size (fun k e=>by cases e;exact Nat.le_refl _)⟩;rw[encL_snoc,List.length_append,List.length_singleton];exact hown'.kept hg4 (ownsRow_ne_a hown' hv3 (fun cur e=>rd_ne (Obj.cells.inj e).2.1))
 case done=>
  rintro D ss W hD hS ⟨⟨v,hv,hrow,hnil⟩,hbl⟩ hK;obtain⟨hc,hf⟩:=cell_of_box_a hv
  gi_wp2
  refine⟨by simp,.inl ⟨_,_,rfl,run_takeDeferred hK,?_⟩⟩;exact⟨_,results_tmp rfl _ _ _,v,ss,rfl,hS,⟨Zhv hrow (grownBy_putObj' _ _ _) (fun r e=>by cases e;exact⟨_,hK,rfl⟩),hnil⟩,hbl.grown (grownBy_putObj' _ _ _) hbl.size (fun k e=>by cases e;omega)⟩
end Go.Proofs.YtnfdfiholcelaaaGreatDoor
namespace Go.Proofs.YtnfdfiholcelaaaGreatDoor
open Go.Shelf Go.RowKit Go.Sort Plain Tryz
def sortF_ren:Go.Shelf.Ren:=⟨fun|6=>203|15=>237|14=>236|28=>260|29=>261|20=>252|21=>253|22=>254|23=>255|24=>256|25=>257|26=>258|27=>259|46=>267|47=>268|48=>269|49=>270|50=>271|57=>284|n=>n,fun|22=>118|24=>161|25=>247|3=>3|39=>229|0=>0|53=>136|55=>363|4=>4|46=>357|45=>356|50=>308|5=>5|9=>9|66=>371|70=>375|76=>385|77=>386|n=>n,fun|n=>n⟩
theorem sortF:Go.Proofs.SlLaysF0.n6 prog sortF_ren:={
 mixed:=by kernel_rfl
 f6:=⟨Tryz.f203.name,by kernel_rfl,func203.trans (congrArg some (by kernel_rfl))⟩
 f14:=⟨Tryz.f236.name,by kernel_rfl,func236.trans (congrArg some (by kernel_rfl))⟩
 f15:=func237.trans (congrArg some (by kernel_rfl))
 f20:=⟨Tryz.f252.name,by kernel_rfl,func252.trans (congrArg some (by kernel_rfl))⟩
 f21:=⟨Tryz.f253.name,by kernel_rfl,func253.trans (congrArg some (by kernel_rfl))⟩
 f22:=⟨Tryz.f254.name,by kernel_rfl,func254.trans (congrArg some (by kernel_rfl))⟩
 f23:=⟨Tryz.f255.name,by kernel_rfl,func255.trans (congrArg some (by kernel_rfl))⟩
 f24:=⟨Tryz.f256.name,by kernel_rfl,func256.trans (congrArg some (by kernel_rfl))⟩
 f25:=⟨Tryz.f257.name,by kernel_rfl,func257.trans (congrArg some (by kernel_rfl))⟩
 f26:=⟨Tryz.f258.name,by kernel_rfl,func258.trans (congrArg some (by kernel_rfl))⟩
 f27:=⟨Tryz.f259.name,by kernel_rfl,func259.trans (congrArg some (by kernel_rfl))⟩
 f28:=func260.trans (congrArg some (by kernel_rfl))
 f29:=func261.trans (congrArg some (by kernel_rfl))
 f46:=⟨Tryz.f267.name,by kernel_rfl,func267.trans (congrArg some (by kernel_rfl))⟩
 f47:=func268.trans (congrArg some (by kernel_rfl))
 f48:=func269.trans (congrArg some (by kernel_rfl))
 f49:=⟨Tryz.f270.name,by kernel_rfl,func270.trans (congrArg some (by kernel_rfl))⟩
 f50:=⟨Tryz.f271.name,by kernel_rfl,func271.trans (congrArg some (by kernel_rfl))⟩
 f57:=⟨Tryz.f284.name,by kernel_rfl,func284.trans (congrArg some (by kernel_rfl))⟩
 t0:=underlying0
 a0:=Tryz.isAgg0
 z0:=Tryz.sizeOf0
 v0:=Tryz.zeroValue0
 t3:=underlying3
 a3:=Tryz.isAgg3
 z3:=Tryz.sizeOf3
 v3:=Tryz.zeroValue3
 t4:=underlying4
 a4:=Tryz.isAgg4
 z4:=Tryz.sizeOf4
 v4:=Tryz.zeroValue4
 t5:=underlying5
 a5:=Tryz.isAgg5
 z5:=Tryz.sizeOf5
 v5:=Tryz.zeroValue5
 t9:=underlying9
 a9:=Tryz.isAgg9
 z9:=Tryz.sizeOf9
 v9:=Tryz.zeroValue9
 t22:=underlying118
 a22:=Tryz.isAgg118
 z22:=Tryz.sizeOf118
 v22:=Tryz.zeroValue118
 t25:=underlying247
 a25:=Tryz.isAgg247
 z25:=Tryz.sizeOf247
 v25:=Tryz.zeroValue247
 t39:=underlying229
 a39:=Tryz.isAgg229
 z39:=Tryz.sizeOf229
 v39:=Tryz.zeroValue229
 t45:=underlying356
 a45:=Tryz.isAgg356
 z45:=Tryz.sizeOf356
 v45:=Tryz.zeroValue356
 t46:=underlying357
 a46:=Tryz.isAgg357
 z46:=Tryz.sizeOf357
 v46:=Tryz.zeroValue357
 t50:=underlying308
 a50:=Tryz.isAgg308
 z50:=Tryz.sizeOf308
 v50:=Tryz.zeroValue308
 t53:=underlying136
 a53:=Tryz.isAgg136
 z53:=Tryz.sizeOf136
 v53:=Tryz.zeroValue136
 t55:=underlying363
 a55:=Tryz.isAgg363
 z55:=Tryz.sizeOf363
 v55:=Tryz.zeroValue363
 t66:=underlying371
 a66:=Tryz.isAgg371
 z66:=Tryz.sizeOf371
 v66:=Tryz.zeroValue371
 t70:=underlying375
 a70:=Tryz.isAgg375
 z70:=Tryz.sizeOf375
 v70:=Tryz.zeroValue375
 t76:=underlying385
 a76:=Tryz.isAgg385
 z76:=Tryz.sizeOf385
 v76:=Tryz.zeroValue385
 t77:=underlying386
 a77:=Tryz.isAgg386
 z77:=Tryz.sizeOf386
 v77:=Tryz.zeroValue386
}
theorem Zjb(r:Rd):(encR r).length=4:=rfl
theorem sortF_any(g:Nat)(cb:Array Value)(blk off cap:Nat)(d:Array Rd)(w:World)(eg:∀args w,(callFunc g args).run prog w=.ok (.enter g args) w)
 (hcmp:CmpLays prog g cb encR 4 rcf blk off d.size w) (hH:HoldsK encR 4 w blk off d) (hblk:blk<w.heap.size) (hsz:d.size<4611686018427387904):
 Calls prog 203 #[.slice (some (Ad blk off)) d.size cap,.func (.func g) #[] cb] w fun e w'=>
  e=.returned (.tuple #[])∧∃d' n os,PermIn 0 d.size d d'∧SortedIn (fun x y=>decide (rcf x y<0)) 0 d.size d'∧w'=sortWorldK encR 4 w blk off n d' os:=
 AnyQ.slices_SortFunc sortF 4 Tryz.isAgg161 Tryz.sizeOf161 encR Zjb Zdt rcf swo_rcf g cb blk off cap d w eg hcmp hH hblk hsz
theorem sortF_none(p:Option Addr)(cap:Nat)(fv:Value)(w:World):
 Calls prog 203 #[.slice p 0 cap,fv] w fun e w'=>e=.returned (.tuple #[])∧w'=w:=AnyF.slices_SortFunc_none sortF p cap fv w
end Go.Proofs.YtnfdfiholcelaaaGreatDoor
namespace Go.Proofs.YtnfdfiholcelaaaGreatDoor
open Go.RowKit Go.Sort Tryz
def Gro(w u:World):Prop:=∃q os,u=grow (w.drewN q) os
theorem Gro.refl(w:World):Gro w w:=⟨0,#[],by rw[grow_empty];rfl⟩
theorem Gro.trans{w u v:World}(h:Gro w u)(k:Gro u v):Gro w v:=by
 obtain⟨q,os,rfl⟩:=h;obtain⟨q',os',rfl⟩:=k;refine⟨q+q',os++os',?_⟩;rw[show(grow (w.drewN q) os).drewN q'=grow ((w.drewN q).drewN q') os from rfl,grow_grow];rw[show(w.drewN q).drewN q'=w.drewN (q+q') by simp[World.drewN,Nat.add_assoc]]
theorem Gro.alloc{w u:World}(h:Gro w u)(o:Obj):Gro w (u.alloc o):=h.trans ⟨0,#[o],by rw[alloc_eq_grow];rfl⟩
theorem Gro.drew{w u:World}(h:Gro w u):Gro w u.drew:=h.trans ⟨1,#[],by rw[grow_empty];rfl⟩
theorem Gro.below{w u:World}(h:Gro w u):Below w.heap.size w u:=by
 obtain⟨q,os,rfl⟩:=h;exact below_grown_sl _ _ _ _ (Nat.le_refl _)
end Go.Proofs.YtnfdfiholcelaaaGreatDoor
namespace Go.Proofs.YtnfdfiholcelaaaGreatDoor
open Go.RowKit Go.Sort Go.Shelf Plain Tryz
theorem compare_any(x y:Int)(w:World):Calls prog 206 #[Vi x,Vi y] w fun e w'=>e=.returned (Vi (cmpI x y))∧w'=w:=by
 unfold cmpI
 by_cases h1:x<y
 · rw[if_pos h1]
   go_enter func206,ntmps206
   go_wp2_with (go_at_call 238;refine(nan_any _ _).mono ?_;rintro e w' ⟨rfl,rfl⟩);go_ret;exact⟨rfl,rfl⟩
 · rw[if_neg h1]
   by_cases h2:y<x
   · rw[if_pos h2]
     go_enter func206,ntmps206
     go_wp2_with (go_at_call 238;refine(nan_any _ _).mono ?_;rintro e w' ⟨rfl,rfl⟩);go_ret;exact⟨rfl,rfl⟩
   · rw[if_neg h2]
     go_enter func206,ntmps206
     go_wp2_with (go_at_call 238;refine(nan_any _ _).mono ?_;rintro e w' ⟨rfl,rfl⟩);go_ret;exact⟨rfl,rfl⟩
theorem or_two(b:Nat)(x y:Int)(w:World)(c0:w.cell? (Ad b 0)=some (Vi x))(c1:w.cell? (Ad b 1)=some (Vi y)):
 Calls prog 205 #[.slice (some (Ad b 0)) 2 2] w fun e w'=>e=.returned (Vi (if x=0 then y else x))∧w'=w:=by
 by_cases hx:x=0
 · rw[if_pos hx];subst hx
   by_cases hy:y=0
   · subst hy
     go_enter func205,ntmps205
     go_wp2;refine wp_loop_rounds 3 ?_;rw[rounds_succ];go_wp2;rw[rounds_succ];go_wp2;rw[rounds_succ];go_wp2;go_ret;exact⟨rfl,rfl⟩
   · have hy':(y != 0)=true:=by simpa using hy
     go_enter func205,ntmps205
     go_wp2;refine wp_loop_rounds 3 ?_;rw[rounds_succ];go_wp2;rw[rounds_succ];go_wp2;go_ret;exact⟨rfl,rfl⟩
 · rw[if_neg hx]
   have hx':(x != 0)=true:=by simpa using hx
   go_enter func205,ntmps205
   go_wp2;refine wp_loop_rounds 3 ?_;rw[rounds_succ];go_wp2;go_ret;exact⟨rfl,rfl⟩
theorem keepWC{w u u':World}{x1 x2 y1 y2:Int}(hb:Gro u u')(h:(u.cell? (Ad w.heap.size 0)=some (Vi x1)∧u.cell? (Ad w.heap.size 1)=some (Vi x2)∧u.cell? (Ad (w.heap.size+1) 0)=some (Vi y1)∧u.cell? (Ad (w.heap.size+1) 1)=some (Vi y2))∧Gro w u):(u'.cell? (Ad w.heap.size 0)=some (Vi x1)∧u'.cell? (Ad w.heap.size 1)=some (Vi x2)∧u'.cell? (Ad (w.heap.size+1) 0)=some (Vi y1)∧u'.cell? (Ad (w.heap.size+1) 1)=some (Vi y2))∧Gro w u':=
 ⟨⟨cell_later hb.below h.1.1,cell_later hb.below h.1.2.1,cell_later hb.below h.1.2.2.1,cell_later hb.below h.1.2.2.2⟩,h.2.trans hb⟩
theorem wcompare_any(x1 x2 x3 x4 y1 y2 y3 y4:Int)(w:World):
 Calls prog 152 #[.agg #[Vi x1,Vi x2,Vi x3,Vi x4],.agg #[Vi y1,Vi y2,Vi y3,Vi y4]] w fun e w'=>e=.returned (Vi (if cmpI x1 y1=0 then cmpI x2 y2 else cmpI x1 y1))∧Gro w w':=by
 have k1:=fun u=>(compare_any x1 y1 u).mono (fun e w' h=>(⟨h.1,by rw[h.2];exact Gro.refl _⟩:e=_∧Gro u w'));have k2:=fun u=>(compare_any x2 y2 u).mono (fun e w' h=>(⟨h.1,by rw[h.2];exact Gro.refl _⟩:e=_∧Gro u w'));generalize cmpI x1 y1=c1 at *;generalize cmpI x2 y2=c2 at *;have ko:=fun b u h0 h1=>(or_two b c1 c2 u h0 h1).mono (fun e w' h=>(⟨h.1,by rw[h.2];exact Gro.refl _⟩:e=_∧Gro u w'));generalize (if c1=0 then c2 else c1)=z at*
 go_enter func152,ntmps152
 go_upto_region 1 with fail;have Z:Hid ((((w.alloc (.cells #[Vi x1,Vi x2,Vi x3,Vi x4] 161)).alloc (.cells #[Vi y1,Vi y2,Vi y3,Vi y4] 161)).cell? (Ad w.heap.size 0)=some (Vi x1)∧((w.alloc (.cells #[Vi x1,Vi x2,Vi x3,Vi x4] 161)).alloc (.cells #[Vi y1,Vi y2,Vi y3,Vi y4] 161)).cell? (Ad w.heap.size 1)=some (Vi x2)∧((w.alloc (.cells #[Vi x1,Vi x2,Vi x3,Vi x4] 161)).alloc (.cells #[Vi y1,Vi y2,Vi y3,Vi y4] 161)).cell? (Ad (w.heap.size+1) 0)=some (Vi y1)∧((w.alloc (.cells #[Vi x1,Vi x2,Vi x3,Vi x4] 161)).alloc (.cells #[Vi y1,Vi y2,Vi y3,Vi y4] 161)).cell? (Ad (w.heap.size+1) 1)=some (Vi y2))∧Gro w ((w.alloc (.cells #[Vi x1,Vi x2,Vi x3,Vi x4] 161)).alloc (.cells #[Vi y1,Vi y2,Vi y3,Vi y4] 161))):=Zab ⟨⟨by simp[go_sem],by simp[go_sem],by simp[go_sem],by simp[go_sem]⟩,((Gro.refl w).alloc _).alloc _⟩;generalize (w.alloc (.cells #[Vi x1,Vi x2,Vi x3,Vi x4] 161)).alloc (.cells #[Vi y1,Vi y2,Vi y3,Vi y4] 161)=w1 at *;obtain⟨⟨q0,q1,q2,q3⟩,_⟩:=Z.out
 go_region_held3 (fun u=>(u.cell? (Ad w.heap.size 0)=some (Vi x1)∧u.cell? (Ad w.heap.size 1)=some (Vi x2)∧u.cell? (Ad (w.heap.size+1) 0)=some (Vi y1)∧u.cell? (Ad (w.heap.size+1) 1)=some (Vi y2))∧Gro w u)
  (first
   |(with_reducible assumption)
   |(with_reducible apply keepWC;with_reducible assumption;with_reducible assumption)
   |(refine keepWC ?_ Z.out;exact(Gro.refl _).drew)
   |(with_reducible refine keepWC ((Gro.refl _).alloc _) ?_;with_reducible assumption))
  (first
   |((first|go_at_call_of 206 (Vi x1)|go_at_call_of 206 (Value.int .i64 x1));refine Sb (k1 _) fun w' hb=>?_)
   |((first|go_at_call_of 206 (Vi x2)|go_at_call_of 206 (Value.int .i64 x2));refine Sb (k2 _) fun w' hb=>?_)
   |(go_at_call 205;refine Sb (ko _ _ (by simp[go_sem]) (by simp[go_sem])) fun w' hb=>?_))
 all_goals
  rename_i hH
  have HB:=Zab hH.2;clear hH;go_wp2_with fail;go_ret;exact⟨rfl,HB.out⟩
theorem encL_get:∀(l:List Rd) (t:Nat),t<l.length*4→(encL l)[t]?=(encR (rat l (t/4)))[t%4]?
 |[],t,h=>by simp at h
 |r::s,t,h=>by
  show(encR r++encL s)[t]?=_
  by_cases ht:t<4
  · rw[List.getElem?_append_left (by rw[Zjb];exact ht),Nat.div_eq_of_lt ht,Nat.mod_eq_of_lt ht]
    rfl
  · rw[List.getElem?_append_right (by rw[Zjb];omega),Zjb,encL_get s (t-4) (by simp at h;omega)]
    have e1:t/4=(t-4)/4+1:=by omega
    have e2:t%4=(t-4)%4:=by omega
    rw[e1,e2]
    rfl
theorem getD_bang(l:List Rd)(k:Nat)(h:k<l.length):l.toArray[k]! =rat l k:=by
 rw[rat_eq h]
 simp[h]
theorem encR_some(r:Rd)(k:Nat)(h:k<4):(encR r)[k]?=some (encR r)[k]!:=by
 rw[getElem!_pos _ k (by rw[Zjb];exact h)];exact List.getElem?_eq_getElem _
theorem flat_encL(l:List Rd):(flatK encR 4 l.toArray).toList=encL l:=by
 apply List.ext_getElem?;intro t
 by_cases ht:t<l.length*4
 · rw[encL_get l t ht,encR_some _ _ (Nat.mod_lt _ (by decide)),←getD_bang l (t/4) (by omega)]
   simp[flatK,ht]
 · rw[List.getElem?_eq_none (by simp;omega),List.getElem?_eq_none (by rw[Zbk];omega)]
theorem holdsK_of_block{w:World}{g:Nat}{cur:Array Value}{e:TypeId}{l:List Rd}(hb:w.heap[g]?=some (.cells cur e (0,0)))(ht:cur.toList.take (l.length*4)=encL l):HoldsK encR 4 w g 0 l.toArray:=by
 intro j hj
 have hj':j<l.length*4:=by simpa using hj
 refine⟨?_,by simp[World.frozen?,hb]⟩
 have h1:(cur.toList.take (l.length*4))[j]?=(encL l)[j]?:=by rw[ht]
 rw[List.getElem?_take_of_lt hj',←flat_encL,Array.getElem?_toList,Array.getElem?_toList] at h1;simp only[World.cell?,hb,Nat.zero_add];simp only[Option.isSome_none,Bool.false_eq_true,if_false];rw[h1,getElem!_pos _ j hj];exact Array.getElem?_eq_getElem _
theorem heap_sortK{w:World}{g n:Nat}{os:Array Obj}{cur:Array Value}{e:TypeId}{fr:Nat×Nat}(d:Array Value)(hb:w.heap[g]?=some (.cells cur e fr)):
 (grow (putRow id (Sort.ahead w n) g 0 d) os).heap[g]?=some (.cells (putCells id 0 d cur) e fr):=by
 have hg:g<w.heap.size:=(Array.getElem?_eq_some_iff.1 hb).1;rw[heap_grow_old _ _ (by simpa using hg)]
 simp[putRow,mapBlock,Sort.ahead,Array.getElem?_modify,hb,onCells]
theorem grownBy_sortK{w:World}{g n:Nat}{os:Array Obj}(d:Array Value):w.grownBy (grow (putRow id (Sort.ahead w n) g 0 d) os) (some g):=by
 refine⟨rfl,rfl,rfl,by simp,fun k hk hne=>?_⟩;rw[heap_grow_old _ _ (by simpa using hk)];have:g≠k:=fun e=>hne (by rw[e])
 simp[putRow,mapBlock,Sort.ahead,Array.getElem?_modify,this]
theorem take_putK(cur:Array Value)(ts:List Value)(h:ts.length≤cur.size):(putCells id 0 ts.toArray cur).toList.take ts.length=ts:=by
 apply List.ext_getElem?;intro j
 by_cases hj:j<ts.length
 · rw[List.getElem?_take_of_lt hj,Array.getElem?_toList]
   simp[putCells,hj,show j<cur.size by omega]
 · rw[List.getElem?_take_eq_none (by omega),List.getElem?_eq_none (by omega)]
theorem sortWorld_is(w:World)(g n:Nat)(l:List Rd)(os:Array Obj):sortWorldK encR 4 w g 0 n l.toArray os=grow (putRow id (Sort.ahead w n) g 0 (encL l).toArray) os:=by
 have:flatK encR 4 l.toArray=(encL l).toArray:=by rw[←flat_encL]
 unfold sortWorldK putRowK
 rw[this]
theorem collect_any(gf:Nat)(lb:Array Value)(eg:∀args w,(callFunc gf args).run prog w=.ok (.enter gf args) w)(S:List Rd→Prop)(N:Nat)(hN:N≤1000)(w:World)(hseq:SeqGives Fence.wide 7 prog gf lb rdV S N w):
 Calls prog 202 #[.func (.func gf) #[] lb] w fun e w'=>∃(v:Value) (ss:List Rd),e=.returned v∧S ss∧OwnL w.heap.size v ss w'∧Below w.heap.size w w':=by
 have ha:=appendSeq_any gf lb eg S N hN w hseq
 go_enter func202,ntmps202
 go_wp2_with (go_at_call 235;refine ha.mono ?_;rintro e w' ⟨v,ss,rfl,hS,ho,hb⟩);go_ret;exact⟨v,ss,rfl,hS,ho,hb⟩
theorem cmp_lays(blk off n:Nat)(w:World):CmpLays prog 152 #[] encR 4 rcf blk off n w:=fun _ _ _ _ x y=>
 (wcompare_any x.1 x.2.1 x.2.2.1 x.2.2.2 y.1 y.2.1 y.2.2.1 y.2.2.2 _).mono fun _ _ h=>⟨h.1,h.2⟩
theorem enters_cmp:∀args w,(callFunc 152 args).run prog w=.ok (.enter 152 args) w:=enters_of func152 (by kernel_rfl) rfl
theorem sortedFunc_any(gf:Nat)(lb:Array Value)(eg:∀args w,(callFunc gf args).run prog w=.ok (.enter gf args) w)(l:List Rd)(hso:l.Pairwise (fun x y=>rlt x y=true))(hN:l.length≤1000)(w:World)(hseq:SeqGives Fence.wide 7 prog gf lb rdV (fun ss=>ss.Perm l) l.length w):
 Calls prog 150 #[.func (.func gf) #[] lb,.func (.func 152) #[] #[]] w fun e w'=>∃v,e=.returned v∧OwnL w.heap.size v l w'∧Below w.heap.size w w':=by
 have hc:=collect_any gf lb eg _ _ hN w hseq
 go_enter func150,ntmps150
 go_upto_region 2 with(go_at_call 202;refine hc.mono ?_;rintro e W ⟨v,ss,rfl,hS,⟨hrow,hnil⟩,hb⟩);have hlen:=hS.length_eq
 rcases hrow.2 with⟨rfl,hz⟩|⟨g,cap,cur,rfl,hbase,hgb,r1,r2,r3,r4⟩
 · have hss:ss=[]:=List.eq_nil_of_length_eq_zero hz;subst hss;obtain rfl:l=[]:=List.eq_nil_of_length_eq_zero (by simpa using hlen.symm);clear hlen hz
   go_wp2_with (go_at_call 203;refine(sortF_none none 0 _ W).mono ?_;rintro e w' ⟨rfl,rfl⟩);go_ret;exact⟨.slice none 0 0,rfl,⟨hrow,by simp⟩,hb⟩
 · have hH:HoldsK encR 4 W g 0 ss.toArray:=holdsK_of_block hgb r4;have hgl:g<W.heap.size:=(Array.getElem?_eq_some_iff.1 hgb).1;have cS:=sortF_any 152 #[] g 0 cap ss.toArray W enters_cmp (cmp_lays g 0 _ W) hH hgl (by simp;omega);rw[List.size_toArray] at cS;have HL:Hid (ss.length=l.length):=hlen;have HNL:=Zab hnil;clear hlen hnil
   go_wp2_with (go_at_call 203;refine cS.mono ?_;rintro e w' ⟨rfl,d',n,os,hp,hsd,rfl⟩);go_ret
   have hd:d'=l.toArray:=by
    have:=sortedIn_is (d:=ss.toArray) (d':=d') hso (by simpa using hS) (by simpa using hp) (by simpa using hsd);rw[←this]
   subst hd;rw[sortWorld_is];refine⟨.slice (some (Ad g 0)) ss.length cap,rfl,⟨?_,?_⟩,hb.grown (grownBy_sortK _) hb.size (fun j hj=>by cases hj;exact hbase)⟩
   · rw[HL.out];refine⟨Zbk l,.inr ⟨g,cap,_,rfl,hbase,heap_sortK _ hgb,by rw[←HL.out];exact r1,r2,by simp[putCells,r3],?_⟩⟩;rw[←Zbk];exact take_putK cur _ (by rw[Zbk,r3,←HL.out];omega)
   · have:ss=[]↔l=[]:=by rw[←List.length_eq_zero_iff,←List.length_eq_zero_iff,HL.out]
     rw[HNL.out,this]
end Go.Proofs.YtnfdfiholcelaaaGreatDoor
namespace Go.Proofs.YtnfdfiholcelaaaGreatDoor.Plain
set_option linter.unusedVariables false
def ones(n:Int):Nat→Int
 |0=>0
 |k+1=>ones n k+n/2^k%2
theorem Zfr(n:Int):∀k,0≤ones n k
 |0=>Int.le_refl _
 |k+1=>by have:=Zfr n k;simp only[ones];omega
theorem ones_le(n:Int):∀k:Nat,ones n k≤k
 |0=>by simp[ones]
 |k+1=>by have:=ones_le n k;simp only[ones];omega
def low(n:Int):Nat→Int
 |0=>0
 |k+1=>low n k+n/2^k%2*2^k
theorem Zeu(n:Int):∀k:Nat,low n k=n%2^k
 |0=>by simp[low]
 |k+1=>by
  have hp:(0:Int)<2^k:=Int.pow_pos (by decide);rw[low,Zeu n k];have e1:=Int.mul_ediv_add_emod n (2^k);have e2:=Int.mul_ediv_add_emod (n/2^k) 2;have a0:=Int.emod_nonneg n (Int.ne_of_gt hp);have a1:=Int.emod_lt_of_pos n hp
  have b0:0≤n/2^k%2:=by omega
  have b1:n/2^k%2≤1:=by omega
  have e3:n=(2^(k+1))*(n/2^k/2)+(n%2^k+n/2^k%2*2^k):=by
   conv=>lhs;rw[←e1,←e2]
   rw[Int.pow_succ,Int.mul_add]
   have:(2:Int)^k*(2*(n/2^k/2))=2^k*2*(n/2^k/2):=by rw[Int.mul_assoc]
   rw[this,Int.mul_comm (n/2^k%2) (2^k)]
   omega
  have l1:n/2^k%2*2^k≤2^k:=by
   have:=Int.mul_le_mul_of_nonneg_right b1 (Int.le_of_lt hp)
   omega
  have l0:0≤n/2^k%2*2^k:=Int.mul_nonneg b0 (Int.le_of_lt hp)
  have hs:(2:Int)^(k+1)=2^k+2^k:=by rw[Int.pow_succ];omega
  have h:(n%2^k+n/2^k%2*2^k)%2^(k+1)=n%2^k+n/2^k%2*2^k:=Int.emod_eq_of_lt (by omega) (by omega)
  conv=>rhs;rw[e3]
  rw[Int.add_comm ((2:Int)^(k+1)*_),Int.add_mul_emod_self_left,h]
def turn(n:Int):Nat→Int
 |0=>0
 |k+1=>2*turn n k+n/2^k%2
def Zdj(n:Int):Nat→Int
 |0=>0
 |k+1=>Zdj n k+n/2^(7-k)%2*2^k
theorem pop_byte:∀n:Fin 256,Lib.pop8 (n.val:Int)=ones (n.val:Int) 8:=by decide +kernel
theorem rev_byte:∀n:Fin 256,Lib.rev8 (n.val:Int)=turn (n.val:Int) 8:=by decide +kernel
theorem rev_up:∀n:Fin 256,Lib.rev8 (n.val:Int)=Zdj (n.val:Int) 8:=by decide +kernel
theorem rev_lt:∀n:Fin 256,0≤Lib.rev8 (n.val:Int)∧Lib.rev8 (n.val:Int)≤255:=by decide +kernel
theorem pop_eq(b:Int)(h0:0≤b)(h1:b≤255):Lib.pop8 b=ones b 8:=by
 have:=pop_byte ⟨b.toNat,by omega⟩
 rwa[Int.toNat_of_nonneg h0] at this
theorem rev_eq(b:Int)(h0:0≤b)(h1:b≤255):Lib.rev8 b=turn b 8:=by
 have:=rev_byte ⟨b.toNat,by omega⟩
 rwa[Int.toNat_of_nonneg h0] at this
theorem rev_eq_up(b:Int)(h0:0≤b)(h1:b≤255):Lib.rev8 b=Zdj b 8:=by
 have:=rev_up ⟨b.toNat,by omega⟩
 rwa[Int.toNat_of_nonneg h0] at this
theorem Zey(b:Int)(h0:0≤b)(h1:b≤255):0≤Lib.rev8 b∧Lib.rev8 b≤255:=by
 have:=rev_lt ⟨b.toNat,by omega⟩
 rwa[Int.toNat_of_nonneg h0] at this
theorem div_pow_add(w:Int)(a j:Nat):w/2^a/2^j=w/2^(a+j):=by
 rw[Int.ediv_ediv_of_nonneg (Int.le_of_lt (Int.pow_pos (by decide))),Int.pow_add]
theorem ones_add(w:Int)(a:Nat):∀b,ones w (a+b)=ones w a+ones (w/2^a) b
 |0=>by simp[ones]
 |b+1=>by rw[←Nat.add_assoc,ones,ones_add w a b,ones,div_pow_add];omega
theorem bit_mod(w:Int)(k j:Nat)(h:j<k):w%2^k/2^j%2=w/2^j%2:=by
 have hp:(0:Int)<2^j:=Int.pow_pos (by decide);have e:=Int.mul_ediv_add_emod w (2^k);obtain⟨m,rfl⟩:∃m,k=j+1+m:=⟨k-j-1,by omega⟩
 conv=>rhs;rw[←e]
 have e2:(2:Int)^(j+1+m)*(w/2^(j+1+m))=2^j*(2*(2^m*(w/2^(j+1+m)))):=by
  rw[Int.pow_add,Int.pow_succ,Int.mul_assoc,Int.mul_assoc]
 rw[e2,Int.add_comm,Int.add_mul_ediv_left _ _ (Int.ne_of_gt hp)]
 omega
theorem Ziv(w:Int)(k:Nat):∀j,j≤k→ones (w%2^k) j=ones w j
 |0,_=>rfl
 |j+1,h=>by rw[ones,ones,Ziv w k j (by omega),bit_mod w k j (by omega)]
theorem ones_bytes(w:Int):ones w 32=ones (w/16777216%256) 8+ones (w/65536%256) 8+ones (w/256%256) 8+ones (w%256) 8:=by
 have e1:=ones_add w 24 8;have e2:=ones_add w 16 8;have e3:=ones_add w 8 8;have m0:=Ziv w 8 8 (Nat.le_refl _);have m1:=Ziv (w/256) 8 8 (Nat.le_refl _);have m2:=Ziv (w/65536) 8 8 (Nat.le_refl _);have m3:=Ziv (w/16777216) 8 8 (Nat.le_refl _);simp only[Nat.reduceAdd,Int.reducePow] at e1 e2 e3 m0 m1 m2 m3
 omega
theorem turn_low(w:Int):turn (w%256) 8=turn w 8:=by
 simp only[turn,Int.reducePow,Int.pow_zero]
 omega
end Go.Proofs.YtnfdfiholcelaaaGreatDoor.Plain
namespace Go.Proofs.YtnfdfiholcelaaaGreatDoor
open Go.RowKit Plain Tryz
theorem i64_and1(n:Int):bits .and .i64 n 1=n%2:=by
 have h1:(BitVec.ofInt 64 1).toNat=2^1-1:=by decide
 have key:(BitVec.ofInt 64 n &&& BitVec.ofInt 64 1).toNat=(n%((2^64:Nat):Int)).toNat%2^1:=by
  rw[BitVec.toNat_and,BitVec.toNat_ofInt,h1,Nat.and_two_pow_sub_one_eq_mod]
 show IntKind.i64.wrap ((BitVec.ofInt 64 n &&& BitVec.ofInt 64 1).toNat:Nat)=n%2
 rw[key,IntKind.wrap_i64]
 omega
theorem bit_any(x i:Int)(h0:0≤i)(h1:i≤63)(w:World):
 Calls prog 126 #[Vi x,Vi i] w fun e w'=>e=.returned (Vi (x/2^i.toNat%2))∧w'=w:=by
 have hb:=i64_and1
 go_enter func126,ntmps126
 go_wp2;go_ret;exact⟨rfl,rfl⟩
theorem odd_any(x:Int)(h0:0≤x)(h1:x<4294967296)(w:World):
 Calls prog 90 #[.int .u32 x] w fun e w'=>e=.returned (.bool (decide (ones x 32%2=1)))∧w'=w:=by
 go_enter func90,ntmps90
 go_wp2
 go_loop [3,4] (fun n i=>∃k:Nat,k≤32∧i=Vi k∧n=Vi (ones x k)) (fun n i=>32-(intOf i).toNat)
 case atStart=>exact⟨0,by omega,rfl,rfl⟩
 case round=>
  obtain⟨k,hk,rfl,rfl⟩:=hrel;have o0:=Zfr x k;have o1:=ones_le x k
  by_cases hlt:k<32
  · have hs:ones x (k+1)=ones x k+x/2^k%2:=rfl;generalize ones x k=n at*
    go_wp2_with (go_at_call 126;refine(bit_any _ _ (by omega) (by omega) _).mono ?_;rintro e w' ⟨rfl,rfl⟩)
    go_round
    case rel=>exact⟨k+1,by omega,by go_num,by rw[hs]⟩
    case measure=>simp[intOf];omega
  · have e:k=32:=by omega
    subst e;have hn:Hid (∃n,ones x 32=n):=⟨_,rfl⟩;obtain⟨n,hn⟩:=hn.out;have HN:Hid (ones x 32=n):=hn;rw[hn] at o0 o1⊢;clear hn;go_wp2;go_ret;exact⟨by rw[HN.out];by_cases h:n%2=1<;>simp[h],rfl⟩
theorem rev_any(x:Int)(h0:0≤x)(h1:x≤255)(w:World):
 Calls prog 134 #[.int .u8 x] w fun e w'=>e=.returned (.int .u8 (Lib.rev8 x))∧w'=w:=by
 go_enter func134,ntmps134
 go_wp2;go_ret;exact⟨rfl,rfl⟩
theorem Zhj(b:Int)(h0:0≤b)(h1:b≤255):0≤Lib.pop8 b∧Lib.pop8 b≤8:=by
 rw[pop_eq b h0 h1];exact⟨Zfr b 8,ones_le b 8⟩
theorem onesCount_any(x:Int)(h0:0≤x)(h1:x<4294967296)(w:World):
 Calls prog 194 #[.int .u32 x] w fun e w'=>e=.returned (Vi (ones x 32))∧∃k,w'=w.drewN k:=by
 have a0:0≤x/16777216∧x/16777216≤255:=by omega
 have a1:0≤x/65536%256∧x/65536%256≤255:=by omega
 have a2:0≤x/256%256∧x/256%256≤255:=by omega
 have a3:0≤x%256∧x%256≤255:=by omega
 have p0:=Zhj _ a0.1 a0.2;have p1:=Zhj _ a1.1 a1.2;have p2:=Zhj _ a2.1 a2.2;have p3:=Zhj _ a3.1 a3.2
 have e:ones x 32=Lib.pop8 (x/16777216)+Lib.pop8 (x/65536%256)+Lib.pop8 (x/256%256)+Lib.pop8 (x%256):=by
  rw[ones_bytes,pop_eq _ a0.1 a0.2,pop_eq _ a1.1 a1.2,pop_eq _ a2.1 a2.2,pop_eq _ a3.1 a3.2]
  have:x/16777216%256=x/16777216:=by omega
  rw[this]
 rw[e];clear e
 have m1:bits .and .u32 (x/65536) 255=x/65536%256:=by rw[u32_and _ _ (by omega) (by omega) (by omega) (by omega)];simp[nat_mask8];omega
 have m2:bits .and .u32 (x/256) 255=x/256%256:=by rw[u32_and _ _ (by omega) (by omega) (by omega) (by omega)];simp[nat_mask8];omega
 have m3:bits .and .u32 x 255=x%256:=by rw[u32_and _ _ (by omega) (by omega) (by omega) (by omega)];simp[nat_mask8];omega
 generalize hy0:x/16777216=y0 at *;generalize hy1:x/65536%256=y1 at *;generalize hy2:x/256%256=y2 at *;generalize hy3:x%256=y3 at*
 go_enter func194,ntmps194
 go_wp2;go_quiet (fail);go_wp2;go_ret;exact⟨rfl,_,rfl⟩
theorem isOdd_any(x:Int)(h0:0≤x)(h1:x<4294967296)(w:World):
 Calls prog 136 #[.int .u32 x] w fun e w'=>e=.returned (.bool (decide (ones x 32%2=1)))∧∃k,w'=w.drewN k:=by
 have hc:=onesCount_any x h0 h1;have o0:=Zfr x 32;have o1:=ones_le x 32;generalize ones x 32=n at*
 go_enter func136,ntmps136
 go_wp2_with (go_at_call 194;refine(hc _).mono ?_;rintro e w' ⟨rfl,k,rfl⟩);go_ret;exact⟨by by_cases h:n%2=1<;>simp[h],_,rfl⟩
theorem fits_8(x:Int)(w:World):
 Calls prog 192 #[Vi x,Vi 8] w fun e w'=>e=.returned (.bool (decide (0≤x)&&decide (x<256)))∧w'=w:=by
 by_cases h0:0≤x
 · by_cases h1:x<256
   · rw[decide_eq_true h0,decide_eq_true h1]
     go_enter func192,ntmps192
     go_wp2;go_ret;exact⟨by simp,rfl⟩
   · rw[decide_eq_true h0,decide_eq_false h1]
     go_enter func192,ntmps192
     go_wp2;go_ret;exact⟨by simp,rfl⟩
 · rw[decide_eq_false h0]
   go_enter func192,ntmps192
   go_wp2;go_ret;exact⟨rfl,rfl⟩
theorem fits_2(x:Int)(w:World):
 Calls prog 192 #[Vi x,Vi 2] w fun e w'=>e=.returned (.bool (decide (0≤x)&&decide (x<4)))∧w'=w:=by
 by_cases h0:0≤x
 · by_cases h1:x<4
   · rw[decide_eq_true h0,decide_eq_true h1]
     go_enter func192,ntmps192
     go_wp2;go_ret;exact⟨by simp,rfl⟩
   · rw[decide_eq_true h0,decide_eq_false h1]
     go_enter func192,ntmps192
     go_wp2;go_ret;exact⟨by simp,rfl⟩
 · rw[decide_eq_false h0]
   go_enter func192,ntmps192
   go_wp2;go_ret;exact⟨rfl,rfl⟩
theorem signed_any(x:Int)(h0:0≤x)(h1:x<524288)(w:World):
 Calls prog 201 #[.int .u32 x] w fun e w'=>e=.returned (Vi (if 262143<x then x-524288 else x))∧w'=w:=by
 by_cases h:262143<x
 · rw[if_pos h]
   go_enter func201,ntmps201
   go_wp2;go_ret;exact⟨rfl,rfl⟩
 · rw[if_neg h]
   go_enter func201,ntmps201
   go_wp2;go_ret;exact⟨rfl,rfl⟩
theorem part_0_19(x:Int)(h0:0≤x)(h1:x<4294967296)(w:World):
 Calls prog 135 #[.int .u32 x,Vi 0,Vi 19] w fun e w'=>e=.returned (.int .u32 (x%524288))∧∃k,w'=w.drewN k:=by
 have m1:bits .and .u32 (x) 524287=x%524288:=by rw[u32_and _ _ (by omega) (by omega) (by omega) (by omega)];simp[nat_mask19];omega
 go_enter func135,ntmps135
 go_wp2;go_quiet (fail);go_wp2;go_ret;exact⟨by first|rfl|simp,_,rfl⟩
theorem part_8_2(x:Int)(h0:0≤x)(h1:x<4294967296)(w:World):
 Calls prog 135 #[.int .u32 x,Vi 8,Vi 2] w fun e w'=>e=.returned (.int .u32 (x/256%4))∧∃k,w'=w.drewN k:=by
 have m1:bits .and .u32 (x/256) 3=x/256%4:=by rw[u32_and _ _ (by omega) (by omega) (by omega) (by omega)];simp[nat_mask2];omega
 go_enter func135,ntmps135
 go_wp2;go_quiet (fail);go_wp2;go_ret;exact⟨by first|rfl|simp,_,rfl⟩
theorem part_29_2(x:Int)(h0:0≤x)(h1:x<4294967296)(w:World):
 Calls prog 135 #[.int .u32 x,Vi 29,Vi 2] w fun e w'=>e=.returned (.int .u32 (x/536870912%4))∧∃k,w'=w.drewN k:=by
 have m1:bits .and .u32 (x/536870912) 3=x/536870912%4:=by rw[u32_and _ _ (by omega) (by omega) (by omega) (by omega)];simp[nat_mask2];omega
 go_enter func135,ntmps135
 go_wp2;go_quiet (fail);go_wp2;go_ret;exact⟨by first|rfl|simp,_,rfl⟩
theorem part_10_19(x:Int)(h0:0≤x)(h1:x<4294967296)(w:World):
 Calls prog 135 #[.int .u32 x,Vi 10,Vi 19] w fun e w'=>e=.returned (.int .u32 (x/1024%524288))∧∃k,w'=w.drewN k:=by
 have m1:bits .and .u32 (x/1024) 524287=x/1024%524288:=by rw[u32_and _ _ (by omega) (by omega) (by omega) (by omega)];simp[nat_mask19];omega
 go_enter func135,ntmps135
 go_wp2;go_quiet (fail);go_wp2;go_ret;exact⟨by first|rfl|simp,_,rfl⟩
end Go.Proofs.YtnfdfiholcelaaaGreatDoor
