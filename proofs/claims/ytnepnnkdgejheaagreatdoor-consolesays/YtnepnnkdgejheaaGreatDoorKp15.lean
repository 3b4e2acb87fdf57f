import Derived.Maps.Own
import Derived.Maps.Range
import Derived.Sort.MapsRangeIn
import Derived.DeepKeys4
import Derived.Shelf.Abstract
import Derived.Shelf.RegionOpen
import Derived.OwnWalkIn
import Derived.TacticsInMore
import Derived.LoopNIn
import Derived.LoopIn
import Derived.Shelf.SlIter.Collect
import Derived.Shelf.SlSortCmp.NoneTotal
import Derived.Sort.OwnSorted
import Derived.Test.YtnepnnkdgejheaaGreatDoorKp04
import Derived.Test.YtnepnnkdgejheaaGreatDoorKp09
import Derived.Test.YtnepnnkdgejheaaGreatDoorKp12
import Derived.Test.YtnepnnkdgejheaaGreatDoorKp13
set_option maxRecDepth 100000
set_option maxHeartbeats 20000000
namespace Go.Proofs.YtnepnnkdgejheaaGreatDoor
open Go.RowKit Plain Go.Maps Go.WideMaps Tryz
variable {a b:Int}{l ss:List Rd}{r z:Rd}
theorem Jgh:laidOutB prog=true:=by kernel_rfl
theorem Jat:(319:TypeId)<prog.types.size:=of_decide_eq_true (by kernel_rfl)
theorem F5:prog.underlying 319=some (.array 2 3):=by kernel_rfl
theorem MS:prog.cellsOf 319=2:=by kernel_rfl
theorem Jau:prog.cellsOf 3=1:=by kernel_rfl
theorem Jle:prog.keyType 319=true:=by kernel_rfl
theorem Jgi:(match prog.underlying 319 with|some (.array _ _)|some (.struct _)=>true|_=>false)=true:=by rw[F5]
theorem Joq:prog.keyTypeAt 2 319=true:=by kernel_rfl
theorem Jlf:KeyLaw prog 319:=deep_law_laid Jgh (m:=2) (by decide) Jat Joq Jgi
theorem Ea:Keyed prog 319:=Keyed.of_law Jlf
theorem Jlg{n k:Nat}(h:k<n):∃m,n=m+1:=⟨n-1,by omega⟩
theorem Jgj:∃m,prog.types.size=m+1:=Jlg Jat
def klI(a b:Int):Lit:=.string (keyBytes [.int .i64 a,.int .i64 b])
def wfR(r:Rd):Prop:=(Lit.int .i64 r.1).wf=true/\(Lit.int .i64 r.2.1).wf=true
theorem F6(h:(Lit.int .i64 a).wf=true)(y:(Lit.int .i64 b).wf=true):keyOf prog 319 (.agg #[.int .i64 a,.int .i64 b])=some (klI a b):=by
 obtain⟨m,j⟩:=Jgj
 have e:(Value.agg #[Vi a,Vi b]).formed prog 319=true:=by simp[Value.formed,MS]
 unfold keyOf
 rw[F5,Jle,e,j]
 simp[Program.keyLits,MS,Jau,Value.cells,h,y,klI,List.range_succ]
theorem Jav{a' b':Int}(y:(Lit.int .i64 a).wf=true)(j:(Lit.int .i64 b).wf=true)(wa':(Lit.int .i64 a').wf=true)(wb':(Lit.int .i64 b').wf=true)(h:klI a b=klI a' b'):a=a'/\b=b':=by
 have:=Ea.inj (F6 y j) (by rw[h];exact F6 wa' wb')
 simpa using this
theorem WT(a b:Int):WideAt.IsKeyLit (klI a b):=trivial
theorem Jgk(y:wfR r)(j:wfR z):(klI z.1 z.2.1).sameKey (klI r.1 r.2.1)=req z r:=by
 cases h:req z r
 . cases hs:(klI z.1 z.2.1).sameKey (klI r.1 r.2.1)
   . rfl
   . have:=Jav j.1 j.2 y.1 y.2 (WideAt.sameKey_eq hs);rw[EW] at h;exact absurd this h
 . rw[DC] at h;rw[h.1,h.2];exact WideAt.sameKey_self (WT _ _)
def AG(r:Rd):List Value:=[Vi r.1,Vi r.2.1,Vi r.2.2.1,Vi r.2.2.2]
def rdV(r:Rd):Value:=.agg #[Vi r.1,Vi r.2.1,Vi r.2.2.1,Vi r.2.2.2]
theorem Jlh(h:rdV r=rdV z):r=z:=by
 obtain⟨a,b,c,d⟩:=r;obtain⟨a',y,c',d'⟩:=z
 simp[rdV] at h
 simp[h]
section
variable {H : Type}
def DP(r:Rd):DataW H:=.agg [.lit (.int .i64 r.1),.lit (.int .i64 r.2.1),.lit (.int .i64 r.2.2.1),.lit (.int .i64 r.2.2.2)]
theorem Jgl(h:(DP r:DataW H)=DP z):r=z:=by
 obtain⟨a,b,c,d⟩:=r;obtain⟨a',y,c',d'⟩:=z
 simp[DP] at h
 simp[h]
def C3(v:Value):Option (DataW H×List MemPlace):=
 match v with
 |.agg cs=>match cs.toList with
  |[.int .i64 a,.int .i64 b,.int .i64 c,.int .i64 d]=>some (DP (a,b,c,d),[])
  |_=>none
 |_=>none
theorem Jdj(r:Rd):C3 (H:=H) (rdV r)=some (DP r,[]):=rfl
theorem JQ{v:Value}{y:DataW H×List MemPlace}(h:C3 v=some y):∃r,v=rdV r/\y=(DP r,[]):=by
 unfold C3 at h
 split at h
 . rename_i cs
   split at h
   . rename_i a b c d e
     refine⟨(a,b,c,d),?_,by cases h;rfl⟩
     unfold rdV
     congr 1
     rw[<-Array.toArray_toList (xs:=cs),e]
   . cases h
 . cases h
def Jgm(r:Rd):Lit×DataW H:=(klI r.1 r.2.1,DP r)
def CM(D:DataW H)(l:List Rd):Prop:=∃es,D=.map es/\es.Perm (l.map Jgm)
theorem CM.nil:CM (.map []:DataW H) []:=⟨[],rfl,by simp⟩
theorem CM.put{D:DataW H}(h:CM D l)(hl:∀z∈l,wfR z)(m:wfR r)(hs:l.Pairwise (fun x y=>rlt x y=true)):CM (D.put (klI r.1 r.2.1) (DP r)) (ins r l):=by
 obtain⟨Y,rfl,e⟩:=h;refine⟨_,rfl,(WideShapes.insert_perm _ _).trans ?_⟩
 have w:(l.map (Jgm (H:=H))).filter (fun p=>!p.1.sameKey (klI r.1 r.2.1))=(l.filter (fun z=>!req z r)).map Jgm:=by
  rw[List.filter_map]
  congr 1
  refine List.filter_congr fun z Z=>?_
  show(!(klI z.1 z.2.1).sameKey (klI r.1 r.2.1))=!req z r
  rw[Jgk m (hl z Z)]
 have j:=(e.filter (fun p=>!p.1.sameKey (klI r.1 r.2.1))).cons (klI r.1 r.2.1,(DP r:DataW H));rw[w] at j;exact j.trans ((RE r hs).map (Jgm (H:=H))).symm
def OO(D:DataW H)(left:Lit->Bool)(h:List Rd):Prop:=
 h.Nodup/\(∀r∈h,left (klI r.1 r.2.1)=false)/\∀k,has D k=true->left k=false->∃r∈h,klI r.1 r.2.1=k
theorem OO.start(D:DataW H):OO D (has D) []:=⟨List.nodup_nil,by simp,fun k h1 h2=>by rw[h1] at h2;cases h2⟩
theorem CM.found{D:DataW H}{kl:Lit}(h:CM D l)(ha:∀zd,D.atKey kl zd=DP r):r∈l/\kl=klI r.1 r.2.1:=by
 obtain⟨w,rfl,y⟩:=h;have h1:=has_true_of_atKey ha;have h2:=ha .nil;simp only[DataW.atKey] at h2
 split at h2
 . rename_i p hf
   have j:=List.mem_of_find?_eq_some hf;have hk:=List.find?_some hf;obtain⟨z,m,e⟩:=List.mem_map.1 (y.mem_iff.1 j);subst e;obtain rfl:=Jgl h2;exact⟨m,(WideAt.sameKey_eq hk).symm⟩
 . simp[DP] at h2
theorem OO.step{D:DataW H}{left:Lit->Bool}(h:OO D left ss)(hd:left (klI r.1 r.2.1)=true):OO D (fun z=>left z&&!z.sameKey (klI r.1 r.2.1)) (ss++[r]):=by
 obtain⟨h1,h2,h3⟩:=h
 have hc:r∉ss:=fun hx=>by have:=h2 r hx;rw[hd] at this;cases this
 refine⟨List.nodup_append.2 ⟨h1,by simp,fun a ha b j=>by simp at j;subst j;exact fun e=>hc (e▸ha)⟩,fun z y=>?_,fun k hk hl=>?_⟩
 . rcases List.mem_append.1 y with y|y
   . simp[h2 z y]
   . simp at y;subst y;simp[WideAt.sameKey_self (WT z.1 z.2.1)]
 . cases hlf:left k
   . obtain⟨z,y,e⟩:=h3 k hk hlf;exact⟨z,by simp[y],e⟩
   . have hl:(left k&&!k.sameKey (klI r.1 r.2.1))=false:=hl;rw[hlf] at hl
     have:k.sameKey (klI r.1 r.2.1)=true:=by simpa using hl
     exact⟨r,by simp,(WideAt.sameKey_eq this).symm⟩
theorem I3(h:l.Pairwise (fun x y=>rlt x y=true)):l.Nodup:=h.imp fun {x y} h e=>by subst e;rw[J4] at h;cases h
theorem OO.perm{D:DataW H}{left:Lit->Bool}(h:OO D left ss)(Z:CM D l)(hl:∀z∈l,wfR z)(hs:l.Pairwise (fun x y=>rlt x y=true))(m:∀r∈ss,r∈l)(h0:∀k,left k=false):ss.Perm l:=by
 obtain⟨h1,h2,h3⟩:=h;obtain⟨Y,rfl,X⟩:=Z;refine(List.perm_ext_iff_of_nodup h1 (I3 hs)).2 fun r=>⟨m r,fun j=>?_⟩
 have Q:has (.map Y) (klI r.1 r.2.1)=true:=by
  rw[has_eq,List.any_eq_true];exact⟨Jgm r,X.mem_iff.2 (List.mem_map.2 ⟨r,j,rfl⟩),WideAt.sameKey_self (WT _ _)⟩
 obtain⟨z,w,e⟩:=h3 _ Q (h0 _);have ha:=m z w;have:=Jav (hl z ha).1 (hl z ha).2 (hl r j).1 (hl r j).2 e;have:z=r:=Zif hs ha j (by rw[BZ];omega) (by rw[BZ];omega);exact this▸w
theorem CM.size{D:DataW H}(h:CM D l):Maps.size D=l.length:=by
 obtain⟨j,rfl,y⟩:=h;rw[size_eq,y.length_eq,List.length_map]
end
end Go.Proofs.YtnepnnkdgejheaaGreatDoor
namespace Go.Proofs.YtnepnnkdgejheaaGreatDoor
open Go.RowKit Go.Shelf Plain Go.Maps Tryz
attribute [local go_sem] Oper.semAt_some
theorem MT:prog.underlying 316=some (.map 319 155):=by kernel_rfl
theorem Jgn{H:Type}(n:Nat)(hn:1<=n)(l N b Z:Nat)(w:DataW H)(ls:List Rd)(ha:CM w ls)(ho:∀z∈ls,wfR z)(F:ls.Pairwise (fun x y=>rlt x y=true))(J:List Rd->World->Prop)(I:∀pre x W,J pre W->pre.length<ls.length->YieldAt Fence.wide (n-1) prog l #[rdV x] W fun e Y=>e=.returned (.bool true)/\J (pre++[x]) Y/\KeepsWalks W Y)(W:V6)(Q:AbidesFrom W.heap.size J)(hm:Kc W N 0 (.map (some b)))(hd:W.ownsMap prog 319 (C3 (H:=H)) b Z w)(h0:J [] W):
 CallsIn Fence.wide n prog 259 #[.func (.yield l) #[] #[],Ve N 0] W fun e Y=>(∃v,e=.returned v)/\∃j:List Rd,j.Perm ls/\J j Y:=by
 have L:=ha.size;refine callsIn_of_wp func259 rfl trivial ?_ rfl;simp only[ntmps259,List.size_toArray,List.length_cons,List.length_nil,Nat.reduceAdd,Nat.reduceSub,Array.replicate_succ,Array.replicate_zero,List.push_toArray,List.append_toArray,List.nil_append,List.cons_append]
 gi_wp2_with (first
  |(gi_at_range;refine wpListIn_range_own _ rfl _ 316 rfl 319 155 Ea MT _ b Z _ rfl hd ?_;intro O U hs hG)
  |gi_in)
 go_frame
 gi_loopw [7] (fun _ wr=>∃(left:Lit->Bool) (cnt:Nat) (j:List Rd),wr.ranges prog 319 (C3 (H:=H)) b W.heap.size Z w left cnt/\j.length+cnt<=ls.length/\(OO w left j/\∀r∈j,r∈ls)/\J j wr)
  (fun _ wr=>wr.rangeLeft b W.heap.size)
 case atStart=>
  exact⟨_,_,[],U,by simp[L],⟨OO.start w,by simp⟩,Q [] W O none h0 hs (fun r e=>by cases e)⟩
 case round=>
  obtain⟨left,cnt,j,G,hH,⟨P,D⟩,hl⟩:=hrel
  gi_wp2_with (first
   |(gi_at_next;refine wpListIn_next_ranges _ rfl _ rfl 319 Ea (C3 (H:=H)) (id:Value->Value) (fun r:Rd=>Value.agg #[Vi r.1,Vi r.2.1,Vi r.2.2.1,Vi r.2.2.2]) (fun key C hk=>⟨key,rfl⟩) (fun v y h=>by obtain⟨r,m,_⟩:=JQ h;exact⟨r,m⟩) b W.heap.size Z _ _ _ rfl G ?_ ?_)
   |gi_in)
  . intro hI A
    gi_wp2
    go_end0
    exact⟨⟨_,rfl⟩,j,P.perm ha ho F D A,hl⟩
  . intro x c1 c2 c3 c4 C yd yp X cnt2 hu hw E R T hx B hA hK;obtain⟨c,K⟩:∃c:Rd,c=(c1,c2,c3,c4):=⟨_,rfl⟩;obtain⟨c',hc',hy⟩:=JQ E
    obtain rfl:c=c':=by rw[K];exact Jlh hc'
    obtain⟨rfl,rfl,rfl,rfl⟩:c1=c.1/\c2=c.2.1/\c3=c.2.2.1/\c4=c.2.2.2:=by rw[K];exact⟨rfl,rfl,rfl,rfl⟩
    clear K;have R:∀M,w.atKey C M=DP c:=fun M=>(R M).trans (congrArg Prod.fst hy);obtain⟨hB,rfl⟩:=ha.found R;have hD:J j X:=Q j wr X (some W.heap.size) hl B (fun r e=>by cases e;exact⟨Nat.le_refl _,G.iter_walk⟩);have hi:J j (X.alloc (.cells #[Vi c.1,Vi c.2.1,Vi c.2.2.1,Vi c.2.2.2] 155)):=Q _ _ _ none hD (World.grownBy_alloc X _ none) (fun r e=>by cases e);obtain⟨fn,tmps,assign,body,hy,hR⟩:=I j c _ hi (by omega);have T:=T.alloc (.cells #[Vi c.1,Vi c.2.1,Vi c.2.2.1,Vi c.2.2.2] 155)
    unfold rdV at hy
    clear hA E hc'
    gi_wp2
    refine hR.mono ?_;rintro e W3 ⟨rfl,hE,hF⟩
    gi_wp2
    have hc:=T.of_walks hF;go_roundw
    case rel=>exact⟨_,cnt2,j++[c],hc,by simp;omega,⟨P.step hw,fun r m=>by rcases List.mem_append.1 m with m|m;exact D r m;simp at m;subst m;exact hB⟩,hE⟩
    case measure=>rw[hc.left_eq,G.left_eq];exact hx
end Go.Proofs.YtnepnnkdgejheaaGreatDoor
namespace Go.Proofs.YtnepnnkdgejheaaGreatDoor
open Go.RowKit Go.Shelf Plain Go.Maps Tryz
attribute [local go_sem] Oper.semAt_some
theorem Y9:prog.underlying 159=some (.slice 155):=by kernel_rfl
theorem IC:(prog.info? 155).map (fun i=>(i.zero,i.size,i.bytes))=some (some (.agg #[Vi 0,Vi 0,Vi 0,Vi 0]),4,32):=by kernel_rfl
def rdO(r:Rd):Obj:=.cells #[Vi r.1,Vi r.2.1,Vi r.2.2.1,Vi r.2.2.2] 155
def A9(l:List Rd):List Value:=l.flatMap AG
theorem F7(l:List Rd)(r:Rd):A9 (l++[r])=A9 l++AG r:=by simp[A9]
theorem Xo:∀l:List Rd,(A9 l).length=l.length*4
 |[]=>rfl
 |r::t=>by
  have:=Xo t
  simp[A9,AG] at this|-
  omega
theorem Uh(w:V6)(r:Rd):∀j u,(AG r)[j]?=some u->(w.alloc (.cells #[Vi r.1,Vi r.2.1,Vi r.2.2.1,Vi r.2.2.2] 155)).cell? ((⟨w.heap.size,0,none⟩:Addr).add j)=some u:=by
 intro j u h
 match j,h with
 |0,h=>simp[AG] at h;subst h;simp[go_sem,Addr.add]
 |1,h=>simp[AG] at h;subst h;simp[go_sem,Addr.add]
 |2,h=>simp[AG] at h;subst h;simp[go_sem,Addr.add]
 |3,h=>simp[AG] at h;subst h;simp[go_sem,Addr.add]
 |j+4,h=>simp[AG] at h
theorem Wm(r:Rd):∀u∈AG r,u.oneCell'=true:=by
 intro u h
 simp[AG] at h
 rcases h with rfl|rfl|rfl|rfl<;>rfl
def B9(B:Nat)(v:Value)(l:List Rd)(W:V6):Prop:=W.ownsRow B 155 4 v l.length (A9 l)/\(v=.slice none 0 0↔l=[])
def Jre(B h:Nat)(l:List Rd)(W:V6):Prop:=∃v,W.heap[h]?=some (.cells #[v] 159 (0,0))/\B9 B v l W
theorem Jnz:(159:TypeId)≠155:=by decide
theorem Zix{W W':V6}{row:Option Nat}{base:Nat}{e:TypeId}{size:Nat}{v:Value}{k:Nat}{xs:List Value}(h:W.ownsRow base e size v k xs)(y:W.grownBy W' row)(ha:∀r,row=some r->∃o:Obj,W.heap[r]?=some o/\o.isCells=false):W'.ownsRow base e size v k xs:=by
 refine h.kept y ?_
 rcases h.2 with⟨rfl,_⟩|⟨g,cap,hc,rfl,_,j,_⟩
 . exact .inl rfl
 . refine .inr fun m=>?_;obtain⟨o,ho,hw⟩:=ha g (by simpa[Value.ownBlock] using m.symm);rw[j] at ho;cases ho;cases hw
theorem Jgo(B e:Nat):Own (fun(l:List Rd) W=>Jre B e l W):=fun l W w row h y j=>by
 obtain⟨v,m,ho,hn⟩:=h;exact⟨v,(grownBy_keeps_cells y j m rfl).trans m,Zix ho y j,hn⟩
theorem LN(gf:Nat)(lb:Array Value)(E:∀args w,(callFunc gf args).run prog w=.ok (.enter gf args) w)(S:List Rd->Prop)(N:Nat)(hN:N<=1000)(w:V6)(I:SeqGives Fence.wide 7 prog gf lb rdV S N w):
 Va 296 #[.slice none 0 0,.func (.func gf) #[] lb] w fun e w'=>∃(v:Value) (X:List Rd),e=.returned v/\S X/\B9 w.heap.size v X w'/\Bw w w':=by
 obtain⟨L,hi,O,U,A⟩:=info_parts IC;refine(callsIn_wide (n:=8)).1 ?_;refine callsIn_of_wp_marks func296 rfl trivial ?_ rfl;simp only[ntmps296,List.size_toArray,List.length_cons,List.length_nil,Nat.reduceAdd,Nat.reduceSub,Array.replicate_succ,Array.replicate_zero,List.push_toArray,List.append_toArray,List.nil_append,List.cons_append]
 gi_wp2
 obtain⟨Z,Y⟩:∃Z,w.alloc (.cells #[.slice none 0 0] 159)=Z:=⟨_,rfl⟩
 have B:Z.heap.size=w.heap.size+1:=by rw[<-Y];simp
 have T:Z.heap[w.heap.size]?=some (.cells #[.slice none 0 0] 159 (0,0)):=by rw[<-Y];exact World.alloc_heap_new w _
 have Q:Bw w Z:=by rw[<-Y];exact(Below.refl _ w).alloc (Nat.le_refl _) _
 rw[Y];clear Y;refine LM (F:=Fence.wide) (n:=8) rfl (by omega) (gf:=gf) (lb:=lb) rfl trivial E (enc:=rdV) (S:=S) (N:=N) (I.later Q) rfl
  (fun pre W=>Jre w.heap.size w.heap.size pre W/\Bw w W) (OwnFrom.and (Own.from (Jgo _ _) _) (ownFrom_below (Nat.le_refl _) (by omega)))
  ⟨⟨_,T,⟨rfl,.inl ⟨rfl,rfl⟩⟩,by simp⟩,Q⟩ rdO
  (fun x b=>{ tmps:=#[.slice none 0 0,.func (.func gf) #[] lb,Ve w.heap.size 0,undef,.slice none 0 0,Ve b 0,.func (.func gf) #[] lb,rdV x,undef,undef,undef,undef,undef],defers:=[] }) ?assign ?body ?done
 case assign=>
  intro l x W K hK;obtain⟨x1,x2,x3,x4⟩:=x
  unfold rdV rdO at hK
  unfold rdV
  gi_wp2
  exact hK
 case body=>
  clear B T Q;rintro l pre x W b hd ⟨⟨v,m,ha,hl⟩,H⟩ hlen;obtain⟨hc,hf⟩:=cell_of_box_a m
  unfold rdO at hd
  have c0:W.cell? (Ad b 0)=some (Vi x.1):=by simp[World.cell?,hd]
  have c1:W.cell? (Ad b 1)=some (Vi x.2.1):=by simp[World.cell?,hd]
  have c2:W.cell? (Ad b 2)=some (Vi x.2.2.1):=by simp[World.cell?,hd]
  have c3:W.cell? (Ad b 3)=some (Vi x.2.2.2):=by simp[World.cell?,hd]
  have hr:w.heap.size<W.heap.size:=(Array.getElem?_eq_some_iff.1 m).1
  have hI:pre.length+1<=1000:=by omega
  clear hd
  have ne_of:∀{j:Nat} {o:Obj},W.heap[j]?=some o->(∀hn,o≠.cells hn 155 (0,0))->some j≠v.ownBlock:=fun hj hF=>by
   rcases ownsRow_ne_a ha hj hF with e|e
   . rw[e];simp
   . exact fun e'=>e e'.symm
  have hG:=ne_of m (fun hn e=>Jnz (Obj.cells.inj e).2.1);have Ha:∀(G:V6),(W.alloc (.cells #[Vi x.1,Vi x.2.1,Vi x.2.2.1,Vi x.2.2.2] 155)).grownBy G v.ownBlock->KeepsOthers W G:=fun G J=>⟨Nat.le_trans (by simp) J.size,fun k o hk ho=>(J.block k (by have:=(Array.getElem?_eq_some_iff.1 hk).1;simp;omega) (ne_of hk (fun hn e=>by subst e;cases ho))).trans ((Below.heap_alloc _ _ k (Array.getElem?_eq_some_iff.1 hk).1).trans hk)⟩;clear ne_of
  unfold rdV
  gi_wp2_with (first
   |(
    gi_at_builtin;refine wpListIn_append_own _ rfl _ _ 159 rfl w.heap.size 155 L (.agg #[Vi 0,Vi 0,Vi 0,Vi 0]) 4 32 Y9 hi O U A rfl (by decide) _ _ _ rfl (ha.alloc _) ⟨W.heap.size,0,none⟩ 1 1 (AG x) rfl rfl (Uh _ _) (Wm _) (by unfold maxLen;omega) (by omega) (by simp;omega) ?_;intro v' h R M hw
    have hs:h.heap[w.heap.size]?=some (.cells #[v] 159 (0,0)):=(M.block w.heap.size (by simp;omega) hG).trans ((Below.heap_alloc _ _ _ hr).trans m);obtain⟨hJ,hL⟩:=cell_of_box_a hs
    obtain⟨y,cap',cur',rfl,hx⟩:∃y cap' cur',v'=Vf y 0 (pre.length+1) cap'/\(w.heap.size<=y/\h.heap[y]?=some (.cells cur' 155 (0,0))):=by
     rcases R.2 with⟨_,h0⟩|⟨y,cap',cur',h1,h2,h3,_⟩
     . exact absurd h0 (by omega)
     . exact⟨y,cap',cur',h1,h2,h3⟩
    go_frame)
   |gi_in)
  have P:(W.alloc (.cells #[Vi x.1,Vi x.2.1,Vi x.2.2.1,Vi x.2.2.2] 155)).grownBy h v.ownBlock:=M;have hH:=Ha h P;have hy:Bw w h:=(H.alloc H.size _).grown P (by have:=H.size;simp;omega) (fun k e=>(ha.lt k e).1);have C:h.grownBy (h.setCell (Ad w.heap.size 0) (Vf y 0 (pre.length+1) cap')) (some w.heap.size):=grownBy_setCell0_a _ _ _;refine⟨hH.trans (KeepsOthers.setCell _ _ _),⟨_,heap_setCell_box_a _ hs,?_,by simp⟩,hy.grown C hy.size (fun k e=>by cases e;exact Nat.le_refl _)⟩;rw[F7,List.length_append,List.length_singleton];exact R.kept C (ownsRow_ne_a R hs (fun hn e=>Jnz (Obj.cells.inj e).2.1))
 case done=>
  rintro D X W hD hS ⟨⟨v,m,ha,hl⟩,H⟩ hK;obtain⟨hc,hf⟩:=cell_of_box_a m
  gi_wp2
  refine⟨by simp,.inl ⟨_,_,rfl,run_takeDeferred hK,?_⟩⟩;exact⟨_,results_tmp rfl _ _ _,v,X,rfl,hS,⟨Zix ha (grownBy_putObj' _ _ _) (fun r e=>by cases e;exact⟨_,hK,rfl⟩),hl⟩,H.grown (grownBy_putObj' _ _ _) H.size (fun k e=>by cases e;omega)⟩
end Go.Proofs.YtnepnnkdgejheaaGreatDoor
namespace Go.Proofs.YtnepnnkdgejheaaGreatDoor
open Go.Shelf Go.RowKit Go.Sort Plain Tryz
def Jdk:Go.Shelf.Ren:=⟨fun|6=>258|15=>298|14=>297|28=>338|29=>190|20=>330|21=>331|22=>332|23=>333|24=>334|25=>335|26=>336|27=>337|46=>352|47=>353|48=>354|49=>355|50=>356|57=>362|n=>n,fun|22=>159|24=>155|25=>325|3=>3|39=>190|0=>0|53=>115|55=>245|4=>4|46=>439|45=>438|50=>62|5=>5|9=>9|66=>458|70=>129|76=>464|77=>465|n=>n,fun|n=>n⟩
theorem Jn0:Go.Proofs.SlLaysF0.n6 prog Jdk:={
 mixed:=by kernel_rfl
 f6:=⟨Tryz.f258.name,by kernel_rfl,func258.trans (congrArg some (by kernel_rfl))⟩
 f14:=⟨Tryz.f297.name,by kernel_rfl,func297.trans (congrArg some (by kernel_rfl))⟩
 f15:=func298.trans (congrArg some (by kernel_rfl))
 f20:=⟨Tryz.f330.name,by kernel_rfl,func330.trans (congrArg some (by kernel_rfl))⟩
 f21:=⟨Tryz.f331.name,by kernel_rfl,func331.trans (congrArg some (by kernel_rfl))⟩
 f22:=⟨Tryz.f332.name,by kernel_rfl,func332.trans (congrArg some (by kernel_rfl))⟩
 f23:=⟨Tryz.f333.name,by kernel_rfl,func333.trans (congrArg some (by kernel_rfl))⟩
 f24:=⟨Tryz.f334.name,by kernel_rfl,func334.trans (congrArg some (by kernel_rfl))⟩
 f25:=⟨Tryz.f335.name,by kernel_rfl,func335.trans (congrArg some (by kernel_rfl))⟩
 f26:=⟨Tryz.f336.name,by kernel_rfl,func336.trans (congrArg some (by kernel_rfl))⟩
 f27:=⟨Tryz.f337.name,by kernel_rfl,func337.trans (congrArg some (by kernel_rfl))⟩
 f28:=func338.trans (congrArg some (by kernel_rfl))
 f29:=func190.trans (congrArg some (by kernel_rfl))
 f46:=⟨Tryz.f352.name,by kernel_rfl,func352.trans (congrArg some (by kernel_rfl))⟩
 f47:=func353.trans (congrArg some (by kernel_rfl))
 f48:=func354.trans (congrArg some (by kernel_rfl))
 f49:=⟨Tryz.f355.name,by kernel_rfl,func355.trans (congrArg some (by kernel_rfl))⟩
 f50:=⟨Tryz.f356.name,by kernel_rfl,func356.trans (congrArg some (by kernel_rfl))⟩
 f57:=⟨Tryz.f362.name,by kernel_rfl,func362.trans (congrArg some (by kernel_rfl))⟩
 t0:=underlying0
 a0:=Tryz.isAgg0
 z0:=Tryz.sizeOf0
 v0:=Tryz.zeroValue0
 t3:=underlying3
 a3:=Tryz.isAgg3
 z3:=Tryz.sizeOf3
 v3:=Tryz.zeroValue3
 t4:=underlying4
 a4:=Tryz.isAgg4
 z4:=Tryz.sizeOf4
 v4:=Tryz.zeroValue4
 t5:=underlying5
 a5:=Tryz.isAgg5
 z5:=Tryz.sizeOf5
 v5:=Tryz.zeroValue5
 t9:=underlying9
 a9:=Tryz.isAgg9
 z9:=Tryz.sizeOf9
 v9:=Tryz.zeroValue9
 t22:=underlying159
 a22:=Tryz.isAgg159
 z22:=Tryz.sizeOf159
 v22:=Tryz.zeroValue159
 t25:=underlying325
 a25:=Tryz.isAgg325
 z25:=Tryz.sizeOf325
 v25:=Tryz.zeroValue325
 t39:=underlying190
 a39:=Tryz.isAgg190
 z39:=Tryz.sizeOf190
 v39:=Tryz.zeroValue190
 t45:=underlying438
 a45:=Tryz.isAgg438
 z45:=Tryz.sizeOf438
 v45:=Tryz.zeroValue438
 t46:=underlying439
 a46:=Tryz.isAgg439
 z46:=Tryz.sizeOf439
 v46:=Tryz.zeroValue439
 t50:=underlying62
 a50:=Tryz.isAgg62
 z50:=Tryz.sizeOf62
 v50:=Tryz.zeroValue62
 t53:=underlying115
 a53:=Tryz.isAgg115
 z53:=Tryz.sizeOf115
 v53:=Tryz.zeroValue115
 t55:=underlying245
 a55:=Tryz.isAgg245
 z55:=Tryz.sizeOf245
 v55:=Tryz.zeroValue245
 t66:=underlying458
 a66:=Tryz.isAgg458
 z66:=Tryz.sizeOf458
 v66:=Tryz.zeroValue458
 t70:=underlying129
 a70:=Tryz.isAgg129
 z70:=Tryz.sizeOf129
 v70:=Tryz.zeroValue129
 t76:=underlying464
 a76:=Tryz.isAgg464
 z76:=Tryz.sizeOf464
 v76:=Tryz.zeroValue464
 t77:=underlying465
 a77:=Tryz.isAgg465
 z77:=Tryz.sizeOf465
 v77:=Tryz.zeroValue465
}
theorem N2(r:Rd):(AG r).length=4:=rfl
theorem Jdl(g:Nat)(h:Array Value)(blk off cap:Nat)(d:Array Rd)(w:V6)(j:∀args w,(callFunc g args).run prog w=.ok (.enter g args) w)(ha:CmpLays prog g h AG 4 rcf blk off d.size w)(m:HoldsK AG 4 w blk off d)(H:blk<w.heap.size)(hc:d.size<4611686018427387904):
 Va 258 #[Vf blk off d.size cap,.func (.func g) #[] h] w fun e w'=>
  e=.returned (.tuple #[])/\∃d' n os,PermIn 0 d.size d d'/\SortedIn (fun x y=>decide (rcf x y<0)) 0 d.size d'/\w'=sortWorldK AG 4 w blk off n d' os:=
 AnyQ.slices_SortFunc Jn0 4 Tryz.isAgg155 Tryz.sizeOf155 AG N2 Wm rcf Jk1 g h blk off cap d w j ha m H hc
theorem WU(p:V8)(cap:Nat)(h:Value)(w:V6):
 Va 258 #[.slice p 0 cap,h] w (Re w (.tuple #[])):=AnyF.slices_SortFunc_none Jn0 p cap h w
end Go.Proofs.YtnepnnkdgejheaaGreatDoor
namespace Go.Proofs.YtnepnnkdgejheaaGreatDoor
open Go.RowKit Go.Sort Go.Shelf Plain Tryz
variable {cur:Array Value}{e:TypeId}{g n:Nat}{w:V6}
theorem GC(x y:Int)(w:V6):Va 261 #[Vi x,Vi y] w (Re w (Vi (J7 x y))):=by
 unfold J7
 by_cases h1:x<y
 . rw[if_pos h1]
   go_enter func261,ntmps261
   go_wp2_with (go_at_call 299;refine Sm (O4 _ _) ?_);go_ret;exact⟨rfl,rfl⟩
 . rw[if_neg h1]
   by_cases h2:y<x
   . rw[if_pos h2]
     go_enter func261,ntmps261
     go_wp2_with (go_at_call 299;refine Sm (O4 _ _) ?_);go_ret;exact⟨rfl,rfl⟩
   . rw[if_neg h2]
     go_enter func261,ntmps261
     go_wp2_with (go_at_call 299;refine Sm (O4 _ _) ?_);go_ret;exact⟨rfl,rfl⟩
theorem Jor(b:Nat)(x y:Int)(w:V6)(c0:V2 w b 0 x)(c1:V2 w b 1 y):
 Va 260 #[Vf b 0 2 2] w (Re w (Vi (if x=0 then y else x))):=by
 by_cases hx:x=0
 . rw[if_pos hx];subst hx
   by_cases hy:y=0
   . subst hy
     go_enter func260,ntmps260
     go_wp2;refine wp_loop_rounds 3 ?_;rw[rounds_succ];go_wp2;rw[rounds_succ];go_wp2;rw[rounds_succ];go_wp2;go_ret;exact⟨rfl,rfl⟩
   . have hy':(y != 0)=true:=by simpa using hy
     go_enter func260,ntmps260
     go_wp2;refine wp_loop_rounds 3 ?_;rw[rounds_succ];go_wp2;rw[rounds_succ];go_wp2;go_ret;exact⟨rfl,rfl⟩
 . rw[if_neg hx]
   have hx':(x != 0)=true:=by simpa using hx
   go_enter func260,ntmps260
   go_wp2;refine wp_loop_rounds 3 ?_;rw[rounds_succ];go_wp2;go_ret;exact⟨rfl,rfl⟩
theorem WV{u u':V6}{x1 x2 y1 y2:Int}(y:Gro u u')(h:(u.cell? (Ad w.heap.size 0)=some (Vi x1)/\u.cell? (Ad w.heap.size 1)=some (Vi x2)/\u.cell? (Ad (w.heap.size+1) 0)=some (Vi y1)/\u.cell? (Ad (w.heap.size+1) 1)=some (Vi y2))/\Gro w u):(u'.cell? (Ad w.heap.size 0)=some (Vi x1)/\u'.cell? (Ad w.heap.size 1)=some (Vi x2)/\u'.cell? (Ad (w.heap.size+1) 0)=some (Vi y1)/\u'.cell? (Ad (w.heap.size+1) 1)=some (Vi y2))/\Gro w u':=
 ⟨⟨cell_later y.below h.1.1,cell_later y.below h.1.2.1,cell_later y.below h.1.2.2.1,cell_later y.below h.1.2.2.2⟩,h.2.trans y⟩
theorem OP(y j Y X m H Q G:Int)(w:V6):
 Va 213 #[.agg #[Vi y,Vi j,Vi Y,Vi X],.agg #[Vi m,Vi H,Vi Q,Vi G]] w fun e w'=>e=.returned (Vi (if J7 y m=0 then J7 j H else J7 y m))/\Gro w w':=by
 have T:=fun u=>(GC y m u).mono (fun e w' h=>(⟨h.1,by rw[h.2];exact Gro.refl _⟩:e=_/\Gro u w'));have J:=fun u=>(GC j H u).mono (fun e w' h=>(⟨h.1,by rw[h.2];exact Gro.refl _⟩:e=_/\Gro u w'));generalize J7 y m=c1 at *;generalize J7 j H=c2 at *;have K:=fun b u h0 h1=>(Jor b c1 c2 u h0 h1).mono (fun e w' h=>(⟨h.1,by rw[h.2];exact Gro.refl _⟩:e=_/\Gro u w'));generalize (if c1=0 then c2 else c1)=z at*
 go_enter func213,ntmps213
 go_upto_region 1 with fail;have Z:Hd ((((w.alloc (.cells #[Vi y,Vi j,Vi Y,Vi X] 155)).alloc (.cells #[Vi m,Vi H,Vi Q,Vi G] 155)).cell? (Ad w.heap.size 0)=some (Vi y)/\((w.alloc (.cells #[Vi y,Vi j,Vi Y,Vi X] 155)).alloc (.cells #[Vi m,Vi H,Vi Q,Vi G] 155)).cell? (Ad w.heap.size 1)=some (Vi j)/\((w.alloc (.cells #[Vi y,Vi j,Vi Y,Vi X] 155)).alloc (.cells #[Vi m,Vi H,Vi Q,Vi G] 155)).cell? (Ad (w.heap.size+1) 0)=some (Vi m)/\((w.alloc (.cells #[Vi y,Vi j,Vi Y,Vi X] 155)).alloc (.cells #[Vi m,Vi H,Vi Q,Vi G] 155)).cell? (Ad (w.heap.size+1) 1)=some (Vi H))/\Gro w ((w.alloc (.cells #[Vi y,Vi j,Vi Y,Vi X] 155)).alloc (.cells #[Vi m,Vi H,Vi Q,Vi G] 155))):=Za ⟨⟨by simp[go_sem],by simp[go_sem],by simp[go_sem],by simp[go_sem]⟩,((Gro.refl w).alloc _).alloc _⟩;generalize (w.alloc (.cells #[Vi y,Vi j,Vi Y,Vi X] 155)).alloc (.cells #[Vi m,Vi H,Vi Q,Vi G] 155)=w1 at *;obtain⟨⟨q0,N,P,D⟩,_⟩:=Z.o
 go_region_held3 (fun u=>(V0 u w 0 y/\V0 u w 1 j/\V3 u w 0 m/\V3 u w 1 H)/\Gro w u)
  (first
   |(with_reducible assumption)
   |(with_reducible apply WV;with_reducible assumption;with_reducible assumption)
   |(refine WV ?_ Z.o;exact(Gro.refl _).drew)
   |(with_reducible refine WV ((Gro.refl _).alloc _) ?_;with_reducible assumption))
  (first
   |(go_at_call_of 261 y;refine Sb (T _) fun w' R=>?_)
   |(go_at_call_of 261 j;refine Sb (J _) fun w' R=>?_)
   |(go_at_call 260;refine Sb (K _ _ (by simp[go_sem]) (by simp[go_sem])) fun w' R=>?_))
 all_goals
  rename_i hH
  have M:=Za hH.2;clear hH;go_wp2_with fail;go_ret;exact⟨rfl,M.o⟩
theorem DQ:∀(l:List Rd) (t:Nat),t<l.length*4->(A9 l)[t]?=(AG (rat l (t/4)))[t%4]?
 |[],t,h=>by simp at h
 |r::s,t,h=>by
  show(AG r++A9 s)[t]?=_
  by_cases ht:t<4
  . rw[List.getElem?_append_left (by rw[N2];exact ht),Nat.div_eq_of_lt ht,Nat.mod_eq_of_lt ht]
    rfl
  . rw[List.getElem?_append_right (by rw[N2];omega),N2,DQ s (t-4) (by simp at h;omega)]
    have y:t/4=(t-4)/4+1:=by omega
    have j:t%4=(t-4)%4:=by omega
    rw[y,j]
    rfl
theorem Jdm(l:List Rd)(k:Nat)(h:k<l.length):l.toArray[k]! =rat l k:=by
 rw[EZ h]
 simp[h]
theorem Jdn(r:Rd)(k:Nat)(h:k<4):(AG r)[k]?=some (AG r)[k]!:=by
 rw[getElem!_pos _ k (by rw[N2];exact h)];exact List.getElem?_eq_getElem _
theorem MU(l:List Rd):(flatK AG 4 l.toArray).toList=A9 l:=by
 apply List.ext_getElem?;intro t
 by_cases ht:t<l.length*4
 . rw[DQ l t ht,Jdn _ _ (Nat.mod_lt _ (by decide)),<-Jdm l (t/4) (by omega)]
   simp[flatK,ht]
 . rw[List.getElem?_eq_none (by simp;omega),List.getElem?_eq_none (by rw[Xo];omega)]
theorem I4{l:List Rd}(h:w.heap[g]?=some (.cells cur e (0,0)))(m:cur.toList.take (l.length*4)=A9 l):HoldsK AG 4 w g 0 l.toArray:=by
 intro j y
 have hj':j<l.length*4:=by simpa using y
 refine⟨?_,by simp[World.frozen?,h]⟩
 have h1:(cur.toList.take (l.length*4))[j]?=(A9 l)[j]?:=by rw[m]
 rw[List.getElem?_take_of_lt hj',<-MU,Array.getElem?_toList,Array.getElem?_toList] at h1;simp only[World.cell?,h,Nat.zero_add];simp only[Option.isSome_none,Bool.false_eq_true,if_false];rw[h1,getElem!_pos _ j y];exact Array.getElem?_eq_getElem _
theorem WW{os:Array Obj}{fr:Nat×Nat}(d:Array Value)(h:w.heap[g]?=some (.cells cur e fr)):
 (grow (putRow id (Sort.ahead w n) g 0 d) os).heap[g]?=some (.cells (putCells id 0 d cur) e fr):=by
 have y:g<w.heap.size:=(Array.getElem?_eq_some_iff.1 h).1;rw[heap_grow_old _ _ (by simpa using y)]
 simp[putRow,mapBlock,Sort.ahead,Array.getElem?_modify,h,onCells]
theorem LO{os:Array Obj}(d:Array Value):w.grownBy (grow (putRow id (Sort.ahead w n) g 0 d) os) (some g):=by
 refine⟨rfl,rfl,rfl,by simp,fun k hk ha=>?_⟩;rw[heap_grow_old _ _ (by simpa using hk)];have:g≠k:=fun e=>ha (by rw[e])
 simp[putRow,mapBlock,Sort.ahead,Array.getElem?_modify,this]
theorem Jdo(ha:Array Value)(y:List Value)(h:y.length<=ha.size):(putCells id 0 y.toArray ha).toList.take y.length=y:=by
 apply List.ext_getElem?;intro j
 by_cases m:j<y.length
 . rw[List.getElem?_take_of_lt m,Array.getElem?_toList]
   simp[putCells,m,show j<ha.size by omega]
 . rw[List.getElem?_take_eq_none (by omega),List.getElem?_eq_none (by omega)]
theorem OQ(w:V6)(g n:Nat)(l:List Rd)(os:Array Obj):sortWorldK AG 4 w g 0 n l.toArray os=grow (putRow id (Sort.ahead w n) g 0 (A9 l).toArray) os:=by
 have:flatK AG 4 l.toArray=(A9 l).toArray:=by rw[<-MU]
 unfold sortWorldK putRowK
 rw[this]
theorem SL(gf:Nat)(lb:Array Value)(y:∀args w,(callFunc gf args).run prog w=.ok (.enter gf args) w)(S:List Rd->Prop)(N:Nat)(hN:N<=1000)(w:V6)(hc:SeqGives Fence.wide 7 prog gf lb rdV S N w):
 Va 257 #[.func (.func gf) #[] lb] w fun e w'=>∃(v:Value) (h:List Rd),e=.returned v/\S h/\B9 w.heap.size v h w'/\Bw w w':=by
 have ha:=LN gf lb y S N hN w hc
 go_enter func257,ntmps257
 go_wp2_with (go_at_call 296;refine ha.mono ?_;rintro e w' ⟨v,h,rfl,hS,ho,j⟩);go_ret;exact⟨v,h,rfl,hS,ho,j⟩
theorem Jgp(blk off n:Nat)(w:V6):CmpLays prog 213 #[] AG 4 rcf blk off n w:=fun _ _ _ _ x y=>
 (OP x.1 x.2.1 x.2.2.1 x.2.2.2 y.1 y.2.1 y.2.2.1 y.2.2.2 _).mono fun _ _ h=>⟨h.1,h.2⟩
theorem WX:∀args w,(callFunc 213 args).run prog w=.ok (.enter 213 args) w:=enters_of func213 (by kernel_rfl) rfl
theorem JR(gf:Nat)(lb:Array Value)(R:∀args w,(callFunc gf args).run prog w=.ok (.enter gf args) w)(l:List Rd)(hk:l.Pairwise (fun x y=>rlt x y=true))(hN:l.length<=1000)(w:V6)(T:SeqGives Fence.wide 7 prog gf lb rdV (fun h=>h.Perm l) l.length w):
 Va 211 #[.func (.func gf) #[] lb,.func (.func 213) #[] #[]] w fun e w'=>∃v,e=.returned v/\B9 w.heap.size v l w'/\Bw w w':=by
 have hc:=SL gf lb R _ _ hN w T
 go_enter func211,ntmps211
 go_upto_region 2 with(go_at_call 257;refine hc.mono ?_;rintro e W ⟨v,h,rfl,hS,⟨Z,Y⟩,H⟩);have ha:=hS.length_eq
 rcases Z.2 with⟨rfl,X⟩|⟨g,cap,hl,rfl,Q,hi,r1,r2,r3,r4⟩
 . have J:h=[]:=List.eq_nil_of_length_eq_zero X;subst J;obtain rfl:l=[]:=List.eq_nil_of_length_eq_zero (by simpa using ha.symm);clear ha X
   go_wp2_with (go_at_call 258;refine Sm (WU none 0 _ W) ?_);go_ret;exact⟨.slice none 0 0,rfl,⟨Z,by simp⟩,H⟩
 . have K:HoldsK AG 4 W g 0 h.toArray:=I4 hi r4;have hn:g<W.heap.size:=(Array.getElem?_eq_some_iff.1 hi).1;have G:=Jdl 213 #[] g 0 cap h.toArray W WX (Jgp g 0 _ W) K hn (by simp;omega);rw[List.size_toArray] at G;have m:Hd (h.length=l.length):=ha;have M:=Za Y;clear ha Y
   go_wp2_with (go_at_call 258;refine G.mono ?_;rintro e w' ⟨rfl,d',n,os,N,ho,rfl⟩);go_ret
   have hd:d'=l.toArray:=by
    have:=RG (d:=h.toArray) (d':=d') hk (by simpa using hS) (by simpa using N) (by simpa using ho);rw[<-this]
   subst hd;rw[OQ];refine⟨Vf g 0 h.length cap,rfl,⟨?_,?_⟩,H.grown (LO _) H.size (fun j P=>by cases P;exact Q)⟩
   . rw[m.o];refine⟨Xo l,.inr ⟨g,cap,_,rfl,Q,WW _ hi,by rw[<-m.o];exact r1,r2,by simp[putCells,r3],?_⟩⟩;rw[<-Xo];exact Jdo hl _ (by rw[Xo,r3,<-m.o];omega)
   . have:h=[]↔l=[]:=by rw[<-List.length_eq_zero_iff,<-List.length_eq_zero_iff,m.o]
     rw[M.o,this]
end Go.Proofs.YtnepnnkdgejheaaGreatDoor
namespace Go.Proofs.YtnepnnkdgejheaaGreatDoor
open Go.RowKit Go.Sort Go.Shelf Plain Go.Maps Tryz
variable {k:Nat}{w w':V6}{x:Int}
def A2(x:Int):Option Rd:=if AE x 32%2=1 then some (BO x,CN x,DR x,CY x) else none
theorem SM(h:AE x 32%2=1):A2 x=some (BO x,CN x,DR x,CY x):=if_pos h
theorem Jay(h:¬AE x 32%2=1):A2 x=none:=if_neg h
def Wds(w:V6)(a:V8)(l:V9):Prop:=(l=[]\/∃b off,a=some (Ad b off)/\∀k,k<l.length->Kc w b (off+k) (.int .u32 (at0 l k)))/\∀x∈l,0<=x/\x<4294967296
theorem Wds.lq{a:V8}{l:V9}(h:Wds w a l)(y:Bw w w'):Wds w' a l:=by
 refine⟨?_,h.2⟩
 rcases h.1 with h|⟨b,off,h,hc⟩
 . exact .inl h
 . exact .inr ⟨b,off,h,fun k hk=>cell_later y (hc k hk)⟩
theorem Wds.at{a:V8}{l:V9}(h:Wds w a l)(hk:k<l.length):∃b off,a=some (Ad b off)/\Kc w b (off+k) (.int .u32 (at0 l k))/\0<=at0 l k/\at0 l k<4294967296:=by
 have y:at0 l k∈l:=by simp[at0,hk]
 rcases h.1 with rfl|⟨b,off,j,hc⟩
 . simp at hk
 . exact⟨b,off,j,hc k hk,h.2 _ y⟩
theorem XF(a b c d:Int)(w:V6):Va 210 #[.agg #[Vi a,Vi b,Vi c,Vi d]] w (Rt w (.agg #[Vi a,Vi b])):=by
 go_enter func210,ntmps210
 go_wp2;exact bodyPost_ret (v:=.agg #[Vi a,Vi b]) (by simp[results,results210,go_sem]) rfl ⟨rfl,Zc Vc Vc⟩
theorem Mp{H:Type}{P:Program}{k:TypeId}{R:Value->Option (DataW H×List MemPlace)}{b n:Nat}{D:DataW H}(h:w.ownsMap P k R b n D)(y:Bw w w'):w'.ownsMap P k R b n D:=by
 have hl:=h.lt;obtain⟨j,clock,hb',F,hs,m⟩:=h;exact⟨j,clock,(y.block b hl).trans hb',F,hs,m⟩
theorem XG{H:Type}(n:Nat)(hn:1<=n)(h b m:Nat)(j:DataW H)(ls:List Rd)(ha:CM j ls)(hc:∀z∈ls,wfR z)(hd:ls.Pairwise (fun x y=>rlt x y=true))(w:V6)(Z:Kc w h 0 (.map (some b)))(Y:w.ownsMap prog 319 (C3 (H:=H)) b m j):
 SeqGives Fence.wide n prog 259 #[Ve h 0] rdV (fun X=>X.Perm ls) ls.length w:=fun l J W e Q G h0=>
 Jgn n hn l h b m j ls ha hc hd J G W Q (cell_later e Z) (Mp Y e) h0
theorem XH(h:Option Nat)(w:V6):Va 212 #[.map h] w fun e w'=>e=.returned (.func (.func 259) #[] #[Ve w.heap.size 0])/\w'=w.alloc (.cells #[.map h] 316):=by
 go_enter func212,ntmps212
 go_wp2;go_ret;exact⟨rfl,rfl⟩
theorem Mq{r V o:Nat}{x:Value}(h:w.grownBy w' (some r))(hc:w.cell? (Ad V o)=some x)(y:V≠r):w'.cell? (Ad V o)=some x:=
 (World.cell?_of_block (w:=w) (h.block V (World.block_lt_of_cell? w ⟨V,o,none⟩ hc) (fun e=>y (by cases e;rfl)))).trans hc
theorem Jow(x:Int):0<=BO x/\BO x<=255:=by
 have:=JU x;have:=OT x 8
 omega
theorem Jn1(x:Int):(Lit.int .i64 (BO x)).wf=true/\(Lit.int .i64 (CN x)).wf=true:=by
 have:=Jow x;exact⟨WalkArith.wf_i64 (by omega),WalkArith.wf_i64 (by unfold CN;omega)⟩
theorem Jg2(ws:V9):∀z∈gat A2 ws,wfR z:=fun z h=>by
 obtain⟨x,_,hx⟩:=O7 A2 ws z h
 unfold A2 at hx
 split at hx
 . cases hx;exact Jn1 x
 . cases hx
theorem SN{H:Type}{ws:V9}{A B C E:Int}{D:DataW H}(ha:ws.take (k+1)=ws.take k++[x])(y:A2 x=some (A,B,C,E))(j:(Lit.int .i64 A).wf=true/\(Lit.int .i64 B).wf=true)(m:CM D (gat A2 (ws.take k))):
 BM A2 (ws.take (k+1))=BM A2 (ws.take k)/\CM (D.put (klI A B) (DP (A,B,C,E))) (gat A2 (ws.take (k+1))):=by
 have h:=m.put (r:=(A,B,C,E)) (Jg2 _) j (CU _ _);rw[ha,Mg,Ue,y];exact⟨by simp,h⟩
theorem JW(a:V8)(cap:Nat)(ws:V9)(hl:ws.length<=64)(w:V6)(hw:Wds w a ws):
 Va 164 #[.slice a ws.length cap] w fun e w'=>(∃v,e=.returned (.tuple #[v,Vi (BM A2 ws),.nilIface])/\B9 w.heap.size v (gat A2 ws) w')/\Bw w w':=by
 have HW:=Za hw;clear hw
 have hz:¬(64:Int)<(ws.length:Int):=by omega
 have hA:=@run_makeMap prog
 go_enter func164,ntmps164
 go_wp2
 go_loopw [6,18] (fun p i wr=>∃(k:Nat) (D:DataW Unit),k<=ws.length/\p=Vi (BM A2 (ws.take k))/\i=Vi k/\wr.ownsMap prog 319 (C3 (H:=Unit)) w.heap.size k D/\CM D (gat A2 (ws.take k))/\Bw w wr) (fun _ i _=>ws.length-(intOf i).toNat)
 case atStart=>
  exact⟨0,.map [],Nat.zero_le _,rfl,rfl,World.ownsMap_made _ _ _ _,CM.nil,(Below.refl _ _).alloc (Nat.le_refl _) _⟩
 case round=>
  obtain⟨k,D,hk,rfl,rfl,hc,ha,m⟩:=hrel;have F:=Jag A2 (ws.take k);have hg:BM A2 (ws.take k)<=64:=Nat.le_trans F (Nat.le_trans (List.length_take_le k ws) (by omega));clear F
  by_cases hlt:k<ws.length
  . obtain⟨b,off,rfl,hn,I,L⟩:=(HW.o.lq m).at hlt;have hi:Hd (ws.take (k+1)=ws.take k++[at0 ws k]):=Ziu ws 0 k hlt;have O:=Za hc;have U:=Za ha;have Y:=Za m;clear hc ha m
    by_cases ho:AE (at0 ws k) 32%2=1
    . have X:=XC _ I L ho;have G:=Za (SM ho);have N:=Za (Jn1 (at0 ws k))
      unfold DS at X
      generalize BO (at0 ws k)=A at *;generalize CN (at0 ws k)=B at *;generalize DR (at0 ws k)=C at *;generalize CY (at0 ws k)=E at *;generalize at0 ws k=x at *;clear ho;have W:=Za (SN hi.o G.o N.o U.o)
      go_upto_region 11 with(go_at_call 209;refine Sb (X _) fun h hd=>?_);have Hf:=Za ((Mp O.o hd).alloc (.cells #[Vi A,Vi B,Vi C,Vi E] 155));have Hh:=Za (Zc (Zc Y.o hd) (Zb h (.cells #[Vi A,Vi B,Vi C,Vi E] 155)));have HC:=Za (AC.new h A B C E 155);generalize h.alloc (.cells #[Vi A,Vi B,Vi C,Vi E] 155)=Q at *;generalize h.heap.size=V at *;clear hd;obtain⟨q0,q1,q2,q3,_⟩:=HC.o;have R:Hd (V≠w.heap.size):=Za (fun e=>by subst e;obtain⟨es,clock,hh,_⟩:=Hf.o;simp[World.cell?,hh] at q0);have Z:Hd (V2 Q V 0 A/\V2 Q V 1 B/\V2 Q V 2 C/\V2 Q V 3 E):=Za ⟨q0,q1,q2,q3⟩
      go_region_held3 (fun u=>(V2 u V 0 A/\V2 u V 1 B/\V2 u V 2 C/\V2 u V 3 E))
       (first
        |(with_reducible assumption)
        |exact Z.o
        |(with_reducible exact KS4.o))
       (first
        |(go_at_call 210;refine Sb (XF A B C E _) fun T J=>?_;have K:=Za (HC.o.drew.lq J);have KS3:(Kc T V 0 (.int .i64 A)/\Kc T V 1 (.int .i64 B)/\Kc T V 2 (.int .i64 C)/\Kc T V 3 (.int .i64 E)):=⟨K.o.1,K.o.2.1,K.o.2.2.1,K.o.2.2.2.1⟩;have Hg:=Za (Zc (Zc Hh.o Vb) J);obtain⟨M,ht,own4,y⟩:=(Mp Hf.o.drew J).update Ea MT (by unfold maxLen;omega) (F6 N.o.1 N.o.2) (val:=.agg #[.int .i64 A,.int .i64 B,.int .i64 C,.int .i64 E]) (Jdj (A,B,C,E));have Hi:=Za own4;have Hj:=Za y;have KS4:Hd (Kc M V 0 (.int .i64 A)/\Kc M V 1 (.int .i64 B)/\Kc M V 2 (.int .i64 C)/\Kc M V 3 (.int .i64 E)):=Za ⟨Mq y KS3.1 R.o,Mq y KS3.2.1 R.o,Mq y KS3.2.2.1 R.o,Mq y KS3.2.2.2 R.o⟩;clear own4 y J))
      all_goals
       go_wp2_with fail;go_roundw
       (case rel=>exact⟨k+1,D.put (klI A B) (DP (A,B,C,E)),by omega,by rw[W.o.1],by go_num,Hi.o,W.o.2,Hg.o.grown Hj.o Hg.o.size (fun j e=>by cases e;exact Nat.le_refl _)⟩)
       (case measure=>simp[intOf];omega)
    . have X:=Jdr _ I L ho;have G:=Za (Jay ho);have HN:Hd ((BM A2 (ws.take (k+1)):Int)=(BM A2 (ws.take k):Int)+1):=Za (by rw[hi.o,Mg,G.o];simp);rw[Zv (by decide)] at X;generalize at0 ws k=x at *;clear ho
      go_wp2_with (go_at_call 209;refine Sb (X _) fun h hd=>?_);go_roundw
      case rel=>exact⟨k+1,D,by omega,by rw[HN.o],by go_num,((Mp O.o hd).alloc _).mono (Nat.le_succ _),by rw[hi.o,Ue,G.o];exact U.o,Zc (Zc Y.o hd) Vc⟩
      case measure=>simp[intOf];omega
  . obtain rfl:k=ws.length:=by omega
    rw[List.take_length] at ha;rw[List.take_length];have P:=CU A2 ws;have hx:=Nt A2 ws;have hr:=Jg2 ws;have Y:=Za m;have hv:=XH (some w.heap.size) wr;have HM:Hd ((wr.alloc (.cells #[.map (some w.heap.size)] 316)).cell? (Ad wr.heap.size 0)=some (.map (some w.heap.size))):=Za (by simp[go_sem]);have hs:=JR 259 #[Ve wr.heap.size 0] (enters_of func259 (by kernel_rfl) rfl) (gat A2 ws) P (by omega) (wr.alloc (.cells #[.map (some w.heap.size)] 316)) (XG 7 (by omega) wr.heap.size w.heap.size ws.length D (gat A2 ws) ha hr P _ HM.o (hc.alloc _));clear P hx hr hc ha m hg
    go_wp2_with (first
     |(go_at_call 212;refine hv.mono ?_;rintro e h ⟨rfl,rfl⟩)
     |(go_at_call 211;refine hs.mono ?_;rintro e Q ⟨v,rfl,ho,hy⟩))
    go_ret3;refine⟨⟨v,rfl,?_⟩,Zc (Zc Y.o Vc) hy⟩;exact⟨ownsRow_base_a ho.1 (by have:=Y.o.size;simp;omega),ho.2⟩
end Go.Proofs.YtnepnnkdgejheaaGreatDoor
