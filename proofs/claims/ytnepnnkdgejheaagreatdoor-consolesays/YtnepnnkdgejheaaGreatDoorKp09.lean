import Derived.RangeFuncSeq
import Derived.RangeFuncGives
import Derived.RangeFuncBound
import Derived.RangeFuncFrom
import Derived.RangeFuncCalls
import Derived.Test.YtnepnnkdgejheaaGreatDoorKp00
set_option maxRecDepth 100000
set_option maxHeartbeats 20000000
namespace Go.Proofs.YtnepnnkdgejheaaGreatDoor
open Go.RowKit Tryz
def Jli{α:Type}(I:List α->World->Prop)(xs:List α)(W:V6):Exit->Act->World->Prop
 |.normal,_,W'=>KeepsOthers W W'/\I xs W'
 |_,_,_=>False
theorem SK{W W':V6}(h:KeepsOthers W W'):KeepsWalks W W':=⟨h.size,fun k o hk hw=>h.same k o hk (Obj.not_cells_of_walk hw)⟩
theorem LM{α:Type}{P:Program}{F:Fence}{n:Nat}{g:Operand}{ps:Array Tmp}{assign body:Code}{Q:Exit->Act->World->Prop}{a:Act}{w:V6}(J:F.round=none)(h1:1<=n){gf:Nat}{lb:Array Value}(M:a.eval g=.func (.func gf) #[] lb)(C:F.fn gf)(E:∀args w,(callFunc gf args).run P w=.ok (.enter gf args) w){enc:α->Value}{S:List α->Prop}{N:Nat}(L:SeqGives F (n-1) P gf lb enc S N w)(O:ps.size=1)(I:List α->World->Prop)(H:OwnFrom w.heap.size I)(h0:I [] w)(m:α->Obj)(a₁:α->Nat->Act)(ha:∀(l:Nat) (x:α) (W:V6) (K:Act->World->Prop),K (a₁ x W.heap.size) (W.alloc (m x))->
  assign.wpIn (F.inRound l) (n-1-1) P (Exit.then K (fun _ _ _=>False)) { tmps:=(ps.zip #[enc x]).foldl (fun t (p,v)=>t.setIfInBounds p v) a.tmps,defers:=[] } W)(U:∀(l:Nat) (pre:List α) (x:α) (W:V6) (b:Nat),W.heap[b]?=some (m x)->I pre W->pre.length<N->body.wpIn (F.inRound l) (n-1-1) P (Jli I (pre++[x]) W) (a₁ x b) W)(hf:∀(D:Nat) (xs:List α) (W:V6),w.heap.size<=D->S xs->I xs W->W.heap[D]?=some (.deferred (some []))->Q .normal { a with defers:={ target:=.collected D,args:=#[] }::a.defers } W):
 (Code.rangeFunc g ps assign body).wpIn F n P Q a w:=by
 refine wpIn_rangeFunc ?_;intro fn hv;rw[J];obtain⟨y,Z⟩:∃y:LoopState->Loop,y=fun st=>{ state:=st,pending:=none,fn,tmps:=a.tmps,params:=ps,assign,body,defers:=w.heap.size }:=⟨_,rfl⟩;obtain⟨h,hd⟩:∃h,(w.alloc (.deferred (some []))).alloc (.loop (y .ready))=h:=⟨_,rfl⟩
 have hx:h.heap[w.heap.size+1]?=some (.loop (y .ready)):=by
  rw[<-hd];have:=World.alloc_heap_new (w.alloc (.deferred (some []))) (.loop (y .ready));rwa[World.size_alloc] at this
 have hz:h.heap[w.heap.size]?=some (.deferred (some [])):=by
  rw[<-hd];exact(Below.heap_alloc _ _ _ (by simp)).trans (World.alloc_heap_new w _)
 have hA:I [] h:=by rw[<-hd];exact H.alloc _ (H.alloc _ h0)
 have hC:Bw w h:=by rw[<-hd];exact((Below.refl _ w).alloc (Nat.le_refl _) _).alloc (by simp) _
 refine⟨w.heap.size+1,[{ target:=.collected w.heap.size,args:=#[] }],h,{ target:=.fn (.func gf) lb,args:=#[.func (.yield (w.heap.size+1)) #[] #[]] },h,gf,
  #[.func (.yield (w.heap.size+1)) #[] #[]]++lb,h,?_,?_,?_,?_,fun _=>h1,?_⟩
 . rw[<-hd,Z];exact run_enterLoop_outer _ _ _ _ _
 . simp only[resolve,M]
   simp[go_sem]
 . intro f' hf';simp[Target.leads] at hf';subst hf';exact C
 . simp[invoke,go_sem,E]
 . refine(L (w.heap.size+1)
    (fun pre W=>I pre W/\W.heap[w.heap.size+1]?=some (.loop (y .ready))/\W.heap[w.heap.size]?=some (.deferred (some [])))
    h hC (fun s A B row hs hg' X=>⟨H s A B row hs.1 hg' (fun r e=>?_),(grownBy_keeps hg' (fun r e=>(X r e).2) hs.2.1 rfl).trans hs.2.1,(grownBy_keeps hg' (fun r e=>(X r e).2) hs.2.2 rfl).trans hs.2.2⟩)
    ?_ ⟨hA,hx,hz⟩).mono ?_
   . obtain⟨T,o,ho,hw⟩:=X r e;exact⟨by rw[<-hd] at T;simp at T;omega,o,ho,Obj.not_cells_of_walk hw⟩
   . rintro pre x W ⟨hi,hl,hk⟩ hlen;have hD:w.heap.size+1<W.heap.size:=(Array.getElem?_eq_some_iff.1 hl).1;have hy:=run_yield (P:=P) (args:=#[enc x]) hl (by rw[Z];simp[O]);rw[Z] at hy;have G:(W.alloc (m x)).heap[w.heap.size+1]?=some (.loop (y .ready)):=(Below.heap_alloc _ _ _ hD).trans hl;have hE:(W.alloc (m x)).heap[w.heap.size]?=some (.deferred (some [])):=(Below.heap_alloc _ _ _ (by omega)).trans hk;refine⟨fn,_,assign,body,hy,roundIn_of_wpIn hv (ha _ x W _ ⟨_,run_beginRound G (by rw[Z]),?_⟩)⟩;obtain⟨j,hc⟩:∃j,(W.alloc (m x)).putObj (w.heap.size+1) (.loop { y .ready with state:=.busy })=j:=⟨_,rfl⟩;have hF:w.heap.size+1<(W.alloc (m x)).heap.size:=(Array.getElem?_eq_some_iff.1 G).1
     have hG:j.heap[w.heap.size+1]?=some (.loop { y .ready with state:=.busy }):=by rw[<-hc];exact World.putObj_heap_same hF
     have hH:j.heap[w.heap.size]?=some (.deferred (some [])):=by rw[<-hc];exact(World.putObj_heap_other (by omega)).trans hE
     have hJ:j.heap[W.heap.size]?=some (m x):=by rw[<-hc];exact(World.putObj_heap_other (by omega)).trans (World.alloc_heap_new W _)
     have hK:I pre j:=by rw[<-hc];exact H.putObj _ (H.alloc _ hi) (by omega) G rfl
     have hL:KeepsWalks W j:=by rw[<-hc];exact(KeepsWalks.alloc W (m x)).trans (KeepsWalks.putObj _ G rfl)
     rw[hc];clear hc;refine wpIn_mono (U _ pre x j W.heap.size hJ hK hlen) ?_;rintro e a3 W3 Y
     cases e with
     |normal=>
      obtain⟨hn,hM⟩:=Y;have R:=hn.same _ _ hG rfl;have hN:=hn.same _ _ hH rfl;have X:=run_endRound (P:=P) none R;refine⟨_,_,X,rfl,⟨H.putObj _ hM (by omega) R rfl,?_,(World.putObj_heap_other (by omega)).trans hN⟩,(hL.trans (SK hn)).trans (KeepsWalks.putObj _ R rfl)⟩;rw[World.putObj_heap_same (Array.getElem?_eq_some_iff.1 R).1,Z]
      rfl
     |ret=>exact Y.elim
     |exit id=>exact Y.elim
     |goto t=>exact Y.elim
     |panic ch=>exact Y.elim
     |outgrown=>exact Y.elim
   . rintro e j ⟨⟨v,rfl⟩,xs,hS,hi,hl,hk⟩;exact⟨none,_,by have:=run_endLoop (P:=P) hl (by rw[Z];simp);rw[Z] at this;exact this,hf _ xs _ (Nat.le_refl _) hS (H.putObj _ hi (by omega) hl rfl) ((World.putObj_heap_other (by omega)).trans hk)⟩
end Go.Proofs.YtnepnnkdgejheaaGreatDoor
