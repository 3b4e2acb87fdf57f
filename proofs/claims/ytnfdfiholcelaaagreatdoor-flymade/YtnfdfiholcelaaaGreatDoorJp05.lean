import Derived.RangeFuncSeq
import Derived.RangeFuncGives
import Derived.RangeFuncBound
import Derived.RangeFuncFrom
import Derived.RangeFuncCalls
import Derived.Test.YtnfdfiholcelaaaGreatDoorProg
import Derived.Test.YtnfdfiholcelaaaGreatDoorJp00
set_option maxRecDepth 100000
set_option maxHeartbeats 20000000
namespace Go.Proofs.YtnfdfiholcelaaaGreatDoor
open Go.RowKit Tryz
def boxPost{α:Type}(I:List α→World→Prop)(xs:List α)(W:World):Exit→Act→World→Prop
 |.normal,_,W'=>KeepsOthers W W'∧I xs W'
 |_,_,_=>False
theorem keeps_walks{W W':World}(h:KeepsOthers W W'):KeepsWalks W W':=⟨h.size,fun k o hk hw=>h.same k o hk (Obj.not_cells_of_walk hw)⟩
theorem rangeFunc_box{α:Type}{P:Program}{F:Fence}{n:Nat}{g:Operand}{ps:Array Tmp}{assign body:Code}{Q:Exit→Act→World→Prop}{a:Act}{w:World}(hro:F.round=none)(h1:1≤n){gf:Nat}{lb:Array Value}(hg:a.eval g=.func (.func gf) #[] lb)(hFg:F.fn gf)(eg:∀args w,(callFunc gf args).run P w=.ok (.enter gf args) w){enc:α→Value}{S:List α→Prop}{N:Nat}(hseq:SeqGives F (n-1) P gf lb enc S N w)(hps:ps.size=1)(I:List α→World→Prop)(hI:OwnFrom w.heap.size I)(h0:I [] w)(ob:α→Obj)(a₁:α→Nat→Act)(hassign:∀(l:Nat) (x:α) (W:World) (K:Act→World→Prop),K (a₁ x W.heap.size) (W.alloc (ob x))→
  assign.wpIn (F.inRound l) (n-1-1) P (Exit.then K (fun _ _ _=>False)) { tmps:=(ps.zip #[enc x]).foldl (fun t (p,v)=>t.setIfInBounds p v) a.tmps,defers:=[] } W)(hbody:∀(l:Nat) (pre:List α) (x:α) (W:World) (b:Nat),W.heap[b]?=some (ob x)→I pre W→pre.length<N→body.wpIn (F.inRound l) (n-1-1) P (boxPost I (pre++[x]) W) (a₁ x b) W)(hdone:∀(D:Nat) (xs:List α) (W:World),w.heap.size≤D→S xs→I xs W→W.heap[D]?=some (.deferred (some []))→Q .normal { a with defers:={ target:=.collected D,args:=#[] }::a.defers } W):
 (Code.rangeFunc g ps assign body).wpIn F n P Q a w:=by
 refine wpIn_rangeFunc ?_;intro fn hfn;rw[hro];obtain⟨rc,hrc⟩:∃rc:LoopState→Loop,rc=fun st=>{ state:=st,pending:=none,fn,tmps:=a.tmps,params:=ps,assign,body,defers:=w.heap.size }:=⟨_,rfl⟩;obtain⟨W1,hW1⟩:∃W1,(w.alloc (.deferred (some []))).alloc (.loop (rc .ready))=W1:=⟨_,rfl⟩
 have hL1:W1.heap[w.heap.size+1]?=some (.loop (rc .ready)):=by
  rw[←hW1];have:=World.alloc_heap_new (w.alloc (.deferred (some []))) (.loop (rc .ready));rwa[World.size_alloc] at this
 have hK1:W1.heap[w.heap.size]?=some (.deferred (some [])):=by
  rw[←hW1];exact(Below.heap_alloc _ _ _ (by simp)).trans (World.alloc_heap_new w _)
 have hI1:I [] W1:=by rw[←hW1];exact hI.alloc _ (hI.alloc _ h0)
 have hb1:Bw w W1:=by rw[←hW1];exact((Below.refl _ w).alloc (Nat.le_refl _) _).alloc (by simp) _
 refine⟨w.heap.size+1,[{ target:=.collected w.heap.size,args:=#[] }],W1,{ target:=.fn (.func gf) lb,args:=#[.func (.yield (w.heap.size+1)) #[] #[]] },W1,gf,
  #[.func (.yield (w.heap.size+1)) #[] #[]]++lb,W1,?_,?_,?_,?_,fun _=>h1,?_⟩
 · rw[←hW1,hrc];exact run_enterLoop_outer _ _ _ _ _
 · simp only[resolve,hg]
   simp[go_sem]
 · intro f' hf';simp[Target.leads] at hf';subst hf';exact hFg
 · simp[invoke,go_sem,eg]
 · refine(hseq (w.heap.size+1)
    (fun pre W=>I pre W∧W.heap[w.heap.size+1]?=some (.loop (rc .ready))∧W.heap[w.heap.size]?=some (.deferred (some [])))
    W1 hb1 (fun s A B row hs hg' hr=>⟨hI s A B row hs.1 hg' (fun r e=>?_),(grownBy_keeps hg' (fun r e=>(hr r e).2) hs.2.1 rfl).trans hs.2.1,(grownBy_keeps hg' (fun r e=>(hr r e).2) hs.2.2 rfl).trans hs.2.2⟩)
    ?_ ⟨hI1,hL1,hK1⟩).mono ?_
   · obtain⟨hB,o,ho,hw⟩:=hr r e;exact⟨by rw[←hW1] at hB;simp at hB;omega,o,ho,Obj.not_cells_of_walk hw⟩
   · rintro pre x W ⟨hi,hl,hk⟩ hlen;have hlt:w.heap.size+1<W.heap.size:=(Array.getElem?_eq_some_iff.1 hl).1;have hy:=run_yield (P:=P) (args:=#[enc x]) hl (by rw[hrc];simp[hps]);rw[hrc] at hy;have hla:(W.alloc (ob x)).heap[w.heap.size+1]?=some (.loop (rc .ready)):=(Below.heap_alloc _ _ _ hlt).trans hl;have hka:(W.alloc (ob x)).heap[w.heap.size]?=some (.deferred (some [])):=(Below.heap_alloc _ _ _ (by omega)).trans hk;refine⟨fn,_,assign,body,hy,roundIn_of_wpIn hfn (hassign _ x W _ ⟨_,run_beginRound hla (by rw[hrc]),?_⟩)⟩;obtain⟨W2,hW2⟩:∃W2,(W.alloc (ob x)).putObj (w.heap.size+1) (.loop { rc .ready with state:=.busy })=W2:=⟨_,rfl⟩;have hsa:w.heap.size+1<(W.alloc (ob x)).heap.size:=(Array.getElem?_eq_some_iff.1 hla).1
     have hl2:W2.heap[w.heap.size+1]?=some (.loop { rc .ready with state:=.busy }):=by rw[←hW2];exact World.putObj_heap_same hsa
     have hk2:W2.heap[w.heap.size]?=some (.deferred (some [])):=by rw[←hW2];exact(World.putObj_heap_other (by omega)).trans hka
     have hx2:W2.heap[W.heap.size]?=some (ob x):=by rw[←hW2];exact(World.putObj_heap_other (by omega)).trans (World.alloc_heap_new W _)
     have hi2:I pre W2:=by rw[←hW2];exact hI.putObj _ (hI.alloc _ hi) (by omega) hla rfl
     have hw2:KeepsWalks W W2:=by rw[←hW2];exact(KeepsWalks.alloc W (ob x)).trans (KeepsWalks.putObj _ hla rfl)
     rw[hW2];clear hW2;refine wpIn_mono (hbody _ pre x W2 W.heap.size hx2 hi2 hlen) ?_;rintro e a3 W3 hp
     cases e with
     |normal=>
      obtain⟨hk3,hi3⟩:=hp;have hl3:=hk3.same _ _ hl2 rfl;have hd3:=hk3.same _ _ hk2 rfl;have hr:=run_endRound (P:=P) none hl3;refine⟨_,_,hr,rfl,⟨hI.putObj _ hi3 (by omega) hl3 rfl,?_,(World.putObj_heap_other (by omega)).trans hd3⟩,(hw2.trans (keeps_walks hk3)).trans (KeepsWalks.putObj _ hl3 rfl)⟩;rw[World.putObj_heap_same (Array.getElem?_eq_some_iff.1 hl3).1,hrc]
      rfl
     |ret=>exact hp.elim
     |exit id=>exact hp.elim
     |goto t=>exact hp.elim
     |panic ch=>exact hp.elim
     |outgrown=>exact hp.elim
   · rintro e W2 ⟨⟨v,rfl⟩,xs,hS,hi,hl,hk⟩;exact⟨none,_,by have:=run_endLoop (P:=P) hl (by rw[hrc];simp);rw[hrc] at this;exact this,hdone _ xs _ (Nat.le_refl _) hS (hI.putObj _ hi (by omega) hl rfl) ((World.putObj_heap_other (by omega)).trans hk)⟩
end Go.Proofs.YtnfdfiholcelaaaGreatDoor
