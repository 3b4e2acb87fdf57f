import Derived.Maps.Own
import Derived.Maps.Range
import Derived.Sort.MapsRangeIn
import Derived.DeepKeys4
import Derived.Shelf.Abstract
import Derived.Shelf.RegionOpen
import Derived.OwnWalkIn
import Derived.TacticsInMore
import Derived.LoopNIn
import Derived.LoopIn
import Derived.Shelf.SlIter.Collect
import Derived.Shelf.SlSortCmp.NoneTotal
import Derived.Test.YtnfdfiholcelaaaGreatDoorJp05
import Derived.Test.YtnfdfiholcelaaaGreatDoorJp08
set_option maxRecDepth 100000
set_option maxHeartbeats 20000000
namespace Go.Proofs.YtnfdfiholcelaaaGreatDoor
open Go.RowKit Plain Go.Maps Go.WideMaps Tryz
variable {a b:Int}{l ss:List Rd}{r z:Rd}
theorem who_laid:laidOutB prog=true:=by kernel_rfl
theorem who_row:(241:TypeId)<prog.types.size:=of_decide_eq_true (by kernel_rfl)
theorem who_under:prog.underlying 241=some (.array 2 3):=by kernel_rfl
theorem who_cells:prog.cellsOf 241=2:=by kernel_rfl
theorem who_one:prog.cellsOf 3=1:=by kernel_rfl
theorem who_key:prog.keyType 241=true:=by kernel_rfl
theorem who_wide:(match prog.underlying 241 with|some (.array _ _)|some (.struct _)=>true|_=>false)=true:=by rw[who_under]
theorem who_at:prog.keyTypeAt 2 241=true:=by kernel_rfl
theorem who_law:KeyLaw prog 241:=deep_law_laid who_laid (m:=2) (by decide) who_row who_at who_wide
theorem N9:Keyed prog 241:=Keyed.of_law who_law
theorem succ_of{n k:Nat}(h:k<n):∃m,n=m+1:=⟨n-1,by omega⟩
theorem who_size:∃m,prog.types.size=m+1:=succ_of who_row
def klI(a b:Int):Lit:=.string (keyBytes [.int .i64 a,.int .i64 b])
def wfR(r:Rd):Prop:=(Lit.int .i64 r.1).wf=true∧(Lit.int .i64 r.2.1).wf=true
theorem keyOf_who(wa:(Lit.int .i64 a).wf=true)(wb:(Lit.int .i64 b).wf=true):keyOf prog 241 (.agg #[.int .i64 a,.int .i64 b])=some (klI a b):=by
 obtain⟨m,hm⟩:=who_size
 have hf:(Value.agg #[Vi a,Vi b]).formed prog 241=true:=by simp[Value.formed,who_cells]
 unfold keyOf
 rw[who_under,who_key,hf,hm]
 simp[Program.keyLits,who_cells,who_one,Value.cells,wa,wb,klI,List.range_succ]
theorem klI_inj{a' b':Int}(wa:(Lit.int .i64 a).wf=true)(wb:(Lit.int .i64 b).wf=true)(wa':(Lit.int .i64 a').wf=true)(wb':(Lit.int .i64 b').wf=true)(h:klI a b=klI a' b'):a=a'∧b=b':=by
 have:=N9.inj (keyOf_who wa wb) (by rw[h];exact keyOf_who wa' wb')
 simpa using this
theorem klI_is(a b:Int):WideAt.IsKeyLit (klI a b):=trivial
theorem klI_same(hr:wfR r)(hz:wfR z):(klI z.1 z.2.1).sameKey (klI r.1 r.2.1)=req z r:=by
 cases h:req z r
 · cases hs:(klI z.1 z.2.1).sameKey (klI r.1 r.2.1)
   · rfl
   · have:=klI_inj hz.1 hz.2 hr.1 hr.2 (WideAt.sameKey_eq hs);rw[req_no] at h;exact absurd this h
 · rw[req_iff] at h;rw[h.1,h.2];exact WideAt.sameKey_self (klI_is _ _)
def encR(r:Rd):List Value:=[Vi r.1,Vi r.2.1,Vi r.2.2.1,Vi r.2.2.2]
def rdV(r:Rd):Value:=.agg #[Vi r.1,Vi r.2.1,Vi r.2.2.1,Vi r.2.2.2]
theorem rdV_inj(h:rdV r=rdV z):r=z:=by
 obtain⟨a,b,c,d⟩:=r;obtain⟨a',b',c',d'⟩:=z
 simp[rdV] at h
 simp[h]
section
variable {H : Type}
def datR(r:Rd):DataW H:=.agg [.lit (.int .i64 r.1),.lit (.int .i64 r.2.1),.lit (.int .i64 r.2.2.1),.lit (.int .i64 r.2.2.2)]
theorem datR_inj(h:(datR r:DataW H)=datR z):r=z:=by
 obtain⟨a,b,c,d⟩:=r;obtain⟨a',b',c',d'⟩:=z
 simp[datR] at h
 simp[h]
def rdRead(v:Value):Option (DataW H×List MemPlace):=
 match v with
 |.agg cs=>match cs.toList with
  |[.int .i64 a,.int .i64 b,.int .i64 c,.int .i64 d]=>some (datR (a,b,c,d),[])
  |_=>none
 |_=>none
theorem rdRead_mk(r:Rd):rdRead (H:=H) (rdV r)=some (datR r,[]):=rfl
theorem rdRead_inv{v:Value}{y:DataW H×List MemPlace}(h:rdRead v=some y):∃r,v=rdV r∧y=(datR r,[]):=by
 unfold rdRead at h
 split at h
 · rename_i cs
   split at h
   · rename_i a b c d e
     refine⟨(a,b,c,d),?_,by cases h;rfl⟩
     unfold rdV
     congr 1
     rw[←Array.toArray_toList (xs:=cs),e]
   · cases h
 · cases h
def entR(r:Rd):Lit×DataW H:=(klI r.1 r.2.1,datR r)
def RepM(D:DataW H)(l:List Rd):Prop:=∃es,D=.map es∧es.Perm (l.map entR)
theorem RepM.nil:RepM (.map []:DataW H) []:=⟨[],rfl,by simp⟩
theorem RepM.put{D:DataW H}(h:RepM D l)(hl:∀z∈l,wfR z)(hr:wfR r)(hs:l.Pairwise (fun x y=>rlt x y=true)):RepM (D.put (klI r.1 r.2.1) (datR r)) (ins r l):=by
 obtain⟨es,rfl,hp⟩:=h;refine⟨_,rfl,(WideShapes.insert_perm _ _).trans ?_⟩
 have e1:(l.map (entR (H:=H))).filter (fun p=>!p.1.sameKey (klI r.1 r.2.1))=(l.filter (fun z=>!req z r)).map entR:=by
  rw[List.filter_map]
  congr 1
  refine List.filter_congr fun z hz=>?_
  show(!(klI z.1 z.2.1).sameKey (klI r.1 r.2.1))=!req z r
  rw[klI_same hr (hl z hz)]
 have e2:=(hp.filter (fun p=>!p.1.sameKey (klI r.1 r.2.1))).cons (klI r.1 r.2.1,(datR r:DataW H));rw[e1] at e2;exact e2.trans ((ins_perm r hs).map (entR (H:=H))).symm
def ColR(D:DataW H)(left:Lit→Bool)(ss:List Rd):Prop:=
 ss.Nodup∧(∀r∈ss,left (klI r.1 r.2.1)=false)∧∀k,has D k=true→left k=false→∃r∈ss,klI r.1 r.2.1=k
theorem ColR.start(D:DataW H):ColR D (has D) []:=⟨List.nodup_nil,by simp,fun k h1 h2=>by rw[h1] at h2;cases h2⟩
theorem RepM.found{D:DataW H}{kl:Lit}(h:RepM D l)(hat:∀zd,D.atKey kl zd=datR r):r∈l∧kl=klI r.1 r.2.1:=by
 obtain⟨es,rfl,hp⟩:=h;have h1:=has_true_of_atKey hat;have h2:=hat .nil;simp only[DataW.atKey] at h2
 split at h2
 · rename_i p hf
   have hm:=List.mem_of_find?_eq_some hf;have hk:=List.find?_some hf;obtain⟨z,hz,e⟩:=List.mem_map.1 (hp.mem_iff.1 hm);subst e;obtain rfl:=datR_inj h2;exact⟨hz,(WideAt.sameKey_eq hk).symm⟩
 · simp[datR] at h2
theorem ColR.step{D:DataW H}{left:Lit→Bool}(h:ColR D left ss)(hlk:left (klI r.1 r.2.1)=true):ColR D (fun z=>left z&&!z.sameKey (klI r.1 r.2.1)) (ss++[r]):=by
 obtain⟨h1,h2,h3⟩:=h
 have hnew:r∉ss:=fun hx=>by have:=h2 r hx;rw[hlk] at this;cases this
 refine⟨List.nodup_append.2 ⟨h1,by simp,fun a ha b hb=>by simp at hb;subst hb;exact fun e=>hnew (e▸ha)⟩,fun z hz=>?_,fun k hk hl=>?_⟩
 · rcases List.mem_append.1 hz with hz|hz
   · simp[h2 z hz]
   · simp at hz;subst hz;simp[WideAt.sameKey_self (klI_is z.1 z.2.1)]
 · cases hlf:left k
   · obtain⟨z,hz,e⟩:=h3 k hk hlf;exact⟨z,by simp[hz],e⟩
   · have hl:(left k&&!k.sameKey (klI r.1 r.2.1))=false:=hl;rw[hlf] at hl
     have:k.sameKey (klI r.1 r.2.1)=true:=by simpa using hl
     exact⟨r,by simp,(WideAt.sameKey_eq this).symm⟩
theorem nodup_of_sorted(h:l.Pairwise (fun x y=>rlt x y=true)):l.Nodup:=h.imp fun {x y} h e=>by subst e;rw[rlt_irrefl] at h;cases h
theorem ColR.perm{D:DataW H}{left:Lit→Bool}(h:ColR D left ss)(hD:RepM D l)(hl:∀z∈l,wfR z)(hs:l.Pairwise (fun x y=>rlt x y=true))(hm:∀r∈ss,r∈l)(h0:∀k,left k=false):ss.Perm l:=by
 obtain⟨h1,h2,h3⟩:=h;obtain⟨es,rfl,hp⟩:=hD;refine(List.perm_ext_iff_of_nodup h1 (nodup_of_sorted hs)).2 fun r=>⟨hm r,fun hr=>?_⟩
 have hh:has (.map es) (klI r.1 r.2.1)=true:=by
  rw[has_eq,List.any_eq_true];exact⟨entR r,hp.mem_iff.2 (List.mem_map.2 ⟨r,hr,rfl⟩),WideAt.sameKey_self (klI_is _ _)⟩
 obtain⟨z,hz,e⟩:=h3 _ hh (h0 _);have hzl:=hm z hz;have:=klI_inj (hl z hzl).1 (hl z hzl).2 (hl r hr).1 (hl r hr).2 e;have:z=r:=Zhh hs hzl hr (by rw[rlt_no];omega) (by rw[rlt_no];omega);exact this▸hz
theorem RepM.size{D:DataW H}(h:RepM D l):Maps.size D=l.length:=by
 obtain⟨es,rfl,hp⟩:=h;rw[size_eq,hp.length_eq,List.length_map]
end
end Go.Proofs.YtnfdfiholcelaaaGreatDoor
namespace Go.Proofs.YtnfdfiholcelaaaGreatDoor
open Go.RowKit Go.Shelf Plain Go.Maps Tryz
attribute [local go_sem] Oper.semAt_some
theorem map_under:prog.underlying 238=some (.map 241 161):=by kernel_rfl
theorem vals1_in{H:Type}(n:Nat)(hn:1≤n)(l Bm b nn:Nat)(D0:DataW H)(ls:List Rd)(hrep:RepM D0 ls)(hwf:∀z∈ls,wfR z)(hso:ls.Pairwise (fun x y=>rlt x y=true))(J:List Rd→World→Prop)(hY:∀pre x W,J pre W→pre.length<ls.length→YieldAt Fence.wide (n-1) prog l #[rdV x] W fun e W'=>e=.returned (.bool true)∧J (pre++[x]) W'∧KeepsWalks W W')(W:World)(hJ:AbidesFrom W.heap.size J)(hm:Kc W Bm 0 (.map (some b)))(hown:W.ownsMap prog 241 (rdRead (H:=H)) b nn D0)(h0:J [] W):
 CallsIn Fence.wide n prog 204 #[.func (.yield l) #[] #[],.pointer (some (Ad Bm 0))] W fun e W'=>(∃v,e=.returned v)∧∃ss:List Rd,ss.Perm ls∧J ss W':=by
 have hsz:=hrep.size;refine callsIn_of_wp func204 rfl trivial ?_ rfl;simp only[ntmps204,List.size_toArray,List.length_cons,List.length_nil,Nat.reduceAdd,Nat.reduceSub,Array.replicate_succ,Array.replicate_zero,List.push_toArray,List.append_toArray,List.nil_append,List.cons_append]
 gi_wp2_with (first
  |(gi_at_range;refine wpListIn_range_own _ rfl _ 238 rfl 241 161 N9 map_under _ b nn _ rfl hown ?_;intro w0 hrg0 hg0 hs0)
  |gi_in)
 go_frame
 gi_loopw [7] (fun _ wr=>∃(left:Lit→Bool) (cnt:Nat) (ss:List Rd),wr.ranges prog 241 (rdRead (H:=H)) b W.heap.size nn D0 left cnt∧ss.length+cnt≤ls.length∧(ColR D0 left ss∧∀r∈ss,r∈ls)∧J ss wr)
  (fun _ wr=>wr.rangeLeft b W.heap.size)
 case atStart=>
  exact⟨_,_,[],hrg0,by simp[hsz],⟨ColR.start D0,by simp⟩,hJ [] W w0 none h0 hg0 (fun r e=>by cases e)⟩
 case round=>
  obtain⟨left,cnt,ss,hrg,hcs,⟨hC,hin⟩,hJs⟩:=hrel
  gi_wp2_with (first
   |(gi_at_next;refine wpListIn_next_ranges _ rfl _ rfl 241 N9 (rdRead (H:=H)) (id:Value→Value) (fun r:Rd=>Value.agg #[Vi r.1,Vi r.2.1,Vi r.2.2.1,Vi r.2.2.2]) (fun key kl hk=>⟨key,rfl⟩) (fun v y h=>by obtain⟨r,hr,_⟩:=rdRead_inv h;exact⟨r,hr⟩) b W.heap.size nn _ _ _ rfl hrg ?_ ?_)
   |gi_in)
  · intro hc0 hl0
    gi_wp2
    go_end0
    exact⟨⟨_,rfl⟩,ss,hC.perm hrep hwf hso hin hl0,hJs⟩
  · intro x c1 c2 c3 c4 kl yd yp w2 cnt2 hkey hlk hv hat hrg2 hlt hg2 hs2 hen;obtain⟨c,hcc⟩:∃c:Rd,c=(c1,c2,c3,c4):=⟨_,rfl⟩;obtain⟨c',hc',hy⟩:=rdRead_inv hv
    obtain rfl:c=c':=by rw[hcc];exact rdV_inj hc'
    obtain⟨rfl,rfl,rfl,rfl⟩:c1=c.1∧c2=c.2.1∧c3=c.2.2.1∧c4=c.2.2.2:=by rw[hcc];exact⟨rfl,rfl,rfl,rfl⟩
    clear hcc;have hat:∀zd,D0.atKey kl zd=datR c:=fun zd=>(hat zd).trans (congrArg Prod.fst hy);obtain⟨hcl,rfl⟩:=hrep.found hat;have hJ2:J ss w2:=hJ ss wr w2 (some W.heap.size) hJs hg2 (fun r e=>by cases e;exact⟨Nat.le_refl _,hrg.iter_walk⟩);have hJ2a:J ss (w2.alloc (.cells #[Vi c.1,Vi c.2.1,Vi c.2.2.1,Vi c.2.2.2] 161)):=hJ _ _ _ none hJ2 (World.grownBy_alloc w2 _ none) (fun r e=>by cases e);obtain⟨fn,tmps,assign,body,hy,hR⟩:=hY ss c _ hJ2a (by omega);have hrg2:=hrg2.alloc (.cells #[Vi c.1,Vi c.2.1,Vi c.2.2.1,Vi c.2.2.2] 161)
    unfold rdV at hy
    clear hs2 hv hc'
    gi_wp2
    refine hR.mono ?_;rintro e W3 ⟨rfl,hJ3,hk3⟩
    gi_wp2
    have hrg3:=hrg2.of_walks hk3;go_roundw
    case rel=>exact⟨_,cnt2,ss++[c],hrg3,by simp;omega,⟨hC.step hlk,fun r hr=>by rcases List.mem_append.1 hr with hr|hr;exact hin r hr;simp at hr;subst hr;exact hcl⟩,hJ3⟩
    case measure=>rw[hrg3.left_eq,hrg.left_eq];exact hlt
end Go.Proofs.YtnfdfiholcelaaaGreatDoor
namespace Go.Proofs.YtnfdfiholcelaaaGreatDoor
open Go.RowKit Go.Shelf Plain Go.Maps Tryz
attribute [local go_sem] Oper.semAt_some
theorem Y0:prog.underlying 118=some (.slice 161):=by kernel_rfl
theorem rd_info:(prog.info? 161).map (fun i=>(i.zero,i.size,i.bytes))=some (some (.agg #[Vi 0,Vi 0,Vi 0,Vi 0]),4,32):=by kernel_rfl
def rdO(r:Rd):Obj:=.cells #[Vi r.1,Vi r.2.1,Vi r.2.2.1,Vi r.2.2.2] 161
def encL(l:List Rd):List Value:=l.flatMap encR
theorem encL_snoc(l:List Rd)(r:Rd):encL (l++[r])=encL l++encR r:=by simp[encL]
theorem Xf:∀l:List Rd,(encL l).length=l.length*4
 |[]=>rfl
 |r::t=>by
  have:=Xf t
  simp[encL,encR] at this⊢
  omega
theorem Wn(w:World)(r:Rd):∀j u,(encR r)[j]?=some u→(w.alloc (.cells #[Vi r.1,Vi r.2.1,Vi r.2.2.1,Vi r.2.2.2] 161)).cell? ((⟨w.heap.size,0,none⟩:Addr).add j)=some u:=by
 intro j u hj
 match j,hj with
 |0,hj=>simp[encR] at hj;subst hj;simp[go_sem,Addr.add]
 |1,hj=>simp[encR] at hj;subst hj;simp[go_sem,Addr.add]
 |2,hj=>simp[encR] at hj;subst hj;simp[go_sem,Addr.add]
 |3,hj=>simp[encR] at hj;subst hj;simp[go_sem,Addr.add]
 |j+4,hj=>simp[encR] at hj
theorem X3(r:Rd):∀u∈encR r,u.oneCell'=true:=by
 intro u hu
 simp[encR] at hu
 rcases hu with rfl|rfl|rfl|rfl<;>rfl
def OwnL(B:Nat)(v:Value)(l:List Rd)(W:World):Prop:=W.ownsRow B 161 4 v l.length (encL l)∧(v=.slice none 0 0↔l=[])
def BoxL(B Bs:Nat)(l:List Rd)(W:World):Prop:=∃v,W.heap[Bs]?=some (.cells #[v] 118 (0,0))∧OwnL B v l W
theorem rd_ne:(118:TypeId)≠161:=by decide
theorem Zhy{W W':World}{row:Option Nat}{base:Nat}{e:TypeId}{size:Nat}{v:Value}{k:Nat}{xs:List Value}(h:W.ownsRow base e size v k xs)(hg:W.grownBy W' row)(hrow:∀r,row=some r→∃o:Obj,W.heap[r]?=some o∧o.isCells=false):W'.ownsRow base e size v k xs:=by
 refine h.kept hg ?_
 rcases h.2 with⟨rfl,_⟩|⟨g,cap,cur,rfl,_,hgb,_⟩
 · exact .inl rfl
 · refine .inr fun e'=>?_;obtain⟨o,ho,hw⟩:=hrow g (by simpa[Value.ownBlock] using e'.symm);rw[hgb] at ho;cases ho;cases hw
theorem boxL_own(B Bs:Nat):Own (fun(l:List Rd) W=>BoxL B Bs l W):=fun l W W' row h hg hr=>by
 obtain⟨v,hv,ho,hn⟩:=h;exact⟨v,(grownBy_keeps_cells hg hr hv rfl).trans hv,Zhy ho hg hr,hn⟩
theorem appendSeq_any(gf:Nat)(lb:Array Value)(eg:∀args w,(callFunc gf args).run prog w=.ok (.enter gf args) w)(S:List Rd→Prop)(N:Nat)(hN:N≤1000)(w:World)(hseq:SeqGives Fence.wide 7 prog gf lb rdV S N w):
 Calls prog 235 #[.slice none 0 0,.func (.func gf) #[] lb] w fun e w'=>∃(v:Value) (ss:List Rd),e=.returned v∧S ss∧OwnL w.heap.size v ss w'∧Bw w w':=by
 obtain⟨i0,hi,hz0,hz1,hz2⟩:=info_parts rd_info;refine(callsIn_wide (n:=8)).1 ?_;refine callsIn_of_wp_marks func235 rfl trivial ?_ rfl;simp only[ntmps235,List.size_toArray,List.length_cons,List.length_nil,Nat.reduceAdd,Nat.reduceSub,Array.replicate_succ,Array.replicate_zero,List.push_toArray,List.append_toArray,List.nil_append,List.cons_append]
 gi_wp2
 obtain⟨W0,hW0⟩:∃W0,w.alloc (.cells #[.slice none 0 0] 118)=W0:=⟨_,rfl⟩
 have hs0:W0.heap.size=w.heap.size+1:=by rw[←hW0];simp
 have hv0:W0.heap[w.heap.size]?=some (.cells #[.slice none 0 0] 118 (0,0)):=by rw[←hW0];exact World.alloc_heap_new w _
 have hb0:Bw w W0:=by rw[←hW0];exact(Below.refl _ w).alloc (Nat.le_refl _) _
 rw[hW0];clear hW0;refine rangeFunc_box (F:=Fence.wide) (n:=8) rfl (by omega) (gf:=gf) (lb:=lb) rfl trivial eg (enc:=rdV) (S:=S) (N:=N) (hseq.later hb0) rfl
  (fun pre W=>BoxL w.heap.size w.heap.size pre W∧Bw w W) (OwnFrom.and (Own.from (boxL_own _ _) _) (ownFrom_below (Nat.le_refl _) (by omega)))
  ⟨⟨_,hv0,⟨rfl,.inl ⟨rfl,rfl⟩⟩,by simp⟩,hb0⟩ rdO
  (fun x b=>{ tmps:=#[.slice none 0 0,.func (.func gf) #[] lb,.pointer (some (Ad w.heap.size 0)),undef,.slice none 0 0,.pointer (some (Ad b 0)),.func (.func gf) #[] lb,rdV x,undef,undef,undef,undef,undef],defers:=[] }) ?assign ?body ?done
 case assign=>
  intro l x W K hK;obtain⟨x1,x2,x3,x4⟩:=x
  unfold rdV rdO at hK
  unfold rdV
  gi_wp2
  exact hK
 case body=>
  clear hs0 hv0 hb0;rintro l pre x W b hob ⟨⟨v,hv,hrow,hnil⟩,hbl⟩ hlen;obtain⟨hc,hf⟩:=cell_of_box_a hv
  unfold rdO at hob
  have c0:W.cell? (Ad b 0)=some (Vi x.1):=by simp[World.cell?,hob]
  have c1:W.cell? (Ad b 1)=some (Vi x.2.1):=by simp[World.cell?,hob]
  have c2:W.cell? (Ad b 2)=some (Vi x.2.2.1):=by simp[World.cell?,hob]
  have c3:W.cell? (Ad b 3)=some (Vi x.2.2.2):=by simp[World.cell?,hob]
  have hBlt:w.heap.size<W.heap.size:=(Array.getElem?_eq_some_iff.1 hv).1
  have hml:pre.length+1≤1000:=by omega
  clear hob
  have ne_of:∀{j:Nat} {o:Obj},W.heap[j]?=some o→(∀cur,o≠.cells cur 161 (0,0))→some j≠v.ownBlock:=fun hj hno=>by
   rcases ownsRow_ne_a hrow hj hno with e|e
   · rw[e];simp
   · exact fun e'=>e e'.symm
  have hne:=ne_of hv (fun cur e=>rd_ne (Obj.cells.inj e).2.1);have Ha:∀(W3:World),(W.alloc (.cells #[Vi x.1,Vi x.2.1,Vi x.2.2.1,Vi x.2.2.2] 161)).grownBy W3 v.ownBlock→KeepsOthers W W3:=fun W3 hg=>⟨Nat.le_trans (by simp) hg.size,fun k o hk ho=>(hg.block k (by have:=(Array.getElem?_eq_some_iff.1 hk).1;simp;omega) (ne_of hk (fun cur e=>by subst e;cases ho))).trans ((Below.heap_alloc _ _ k (Array.getElem?_eq_some_iff.1 hk).1).trans hk)⟩;clear ne_of
  unfold rdV
  gi_wp2_with (first
   |(
    gi_at_builtin;refine wpListIn_append_own _ rfl _ _ 118 rfl w.heap.size 161 i0 (.agg #[Vi 0,Vi 0,Vi 0,Vi 0]) 4 32 Y0 hi hz0 hz1 hz2 rfl (by decide) _ _ _ rfl (hrow.alloc _) ⟨W.heap.size,0,none⟩ 1 1 (encR x) rfl rfl (Wn _ _) (X3 _) (by unfold maxLen;omega) (by omega) (by simp;omega) ?_;intro v' w3 hown' hg3 hnil3
    have hv3:w3.heap[w.heap.size]?=some (.cells #[v] 118 (0,0)):=(hg3.block w.heap.size (by simp;omega) hne).trans ((Below.heap_alloc _ _ _ hBlt).trans hv);obtain⟨hc3,hf3⟩:=cell_of_box_a hv3
    obtain⟨g',cap',cur',rfl,hrest⟩:∃g' cap' cur',v'=.slice (some (Ad g' 0)) (pre.length+1) cap'∧(w.heap.size≤g'∧w3.heap[g']?=some (.cells cur' 161 (0,0))):=by
     rcases hown'.2 with⟨_,h0⟩|⟨g',cap',cur',h1,h2,h3,_⟩
     · exact absurd h0 (by omega)
     · exact⟨g',cap',cur',h1,h2,h3⟩
    go_frame)
   |gi_in)
  have hg3':(W.alloc (.cells #[Vi x.1,Vi x.2.1,Vi x.2.2.1,Vi x.2.2.2] 161)).grownBy w3 v.ownBlock:=hg3;have hk3:=Ha w3 hg3';have hb3:Bw w w3:=(hbl.alloc hbl.size _).grown hg3' (by have:=hbl.size;simp;omega) (fun k e=>(hrow.lt k e).1);have hg4:w3.grownBy (w3.setCell (Ad w.heap.size 0) (.slice (some (Ad g' 0)) (pre.length+1) cap')) (some w.heap.size):=grownBy_setCell0_a _ _ _;refine⟨hk3.trans (KeepsOthers.setCell _ _ _),⟨_,heap_setCell_box_a _ hv3,?_,by simp⟩,hb3.grown hg4 hb3.size (fun k e=>by cases e;exact Nat.le_refl _)⟩;rw[encL_snoc,List.length_append,List.length_singleton];exact hown'.kept hg4 (ownsRow_ne_a hown' hv3 (fun cur e=>rd_ne (Obj.cells.inj e).2.1))
 case done=>
  rintro D ss W hD hS ⟨⟨v,hv,hrow,hnil⟩,hbl⟩ hK;obtain⟨hc,hf⟩:=cell_of_box_a hv
  gi_wp2
  refine⟨by simp,.inl ⟨_,_,rfl,run_takeDeferred hK,?_⟩⟩;exact⟨_,results_tmp rfl _ _ _,v,ss,rfl,hS,⟨Zhy hrow (grownBy_putObj' _ _ _) (fun r e=>by cases e;exact⟨_,hK,rfl⟩),hnil⟩,hbl.grown (grownBy_putObj' _ _ _) hbl.size (fun k e=>by cases e;omega)⟩
end Go.Proofs.YtnfdfiholcelaaaGreatDoor
namespace Go.Proofs.YtnfdfiholcelaaaGreatDoor
open Go.Shelf Go.RowKit Go.Sort Plain Tryz
def sortF_ren:Go.Shelf.Ren:=⟨fun|6=>203|15=>237|14=>236|28=>260|29=>261|20=>252|21=>253|22=>254|23=>255|24=>256|25=>257|26=>258|27=>259|46=>267|47=>268|48=>269|49=>270|50=>271|57=>284|n=>n,fun|22=>118|24=>161|25=>247|3=>3|39=>229|0=>0|53=>136|55=>363|4=>4|46=>357|45=>356|50=>308|5=>5|9=>9|66=>371|70=>375|76=>385|77=>386|n=>n,fun|n=>n⟩
theorem sortF:Go.Proofs.SlLaysF0.n6 prog sortF_ren:={
 mixed:=by kernel_rfl
 f6:=⟨Tryz.f203.name,by kernel_rfl,func203.trans (congrArg some (by kernel_rfl))⟩
 f14:=⟨Tryz.f236.name,by kernel_rfl,func236.trans (congrArg some (by kernel_rfl))⟩
 f15:=func237.trans (congrArg some (by kernel_rfl))
 f20:=⟨Tryz.f252.name,by kernel_rfl,func252.trans (congrArg some (by kernel_rfl))⟩
 f21:=⟨Tryz.f253.name,by kernel_rfl,func253.trans (congrArg some (by kernel_rfl))⟩
 f22:=⟨Tryz.f254.name,by kernel_rfl,func254.trans (congrArg some (by kernel_rfl))⟩
 f23:=⟨Tryz.f255.name,by kernel_rfl,func255.trans (congrArg some (by kernel_rfl))⟩
 f24:=⟨Tryz.f256.name,by kernel_rfl,func256.trans (congrArg some (by kernel_rfl))⟩
 f25:=⟨Tryz.f257.name,by kernel_rfl,func257.trans (congrArg some (by kernel_rfl))⟩
 f26:=⟨Tryz.f258.name,by kernel_rfl,func258.trans (congrArg some (by kernel_rfl))⟩
 f27:=⟨Tryz.f259.name,by kernel_rfl,func259.trans (congrArg some (by kernel_rfl))⟩
 f28:=func260.trans (congrArg some (by kernel_rfl))
 f29:=func261.trans (congrArg some (by kernel_rfl))
 f46:=⟨Tryz.f267.name,by kernel_rfl,func267.trans (congrArg some (by kernel_rfl))⟩
 f47:=func268.trans (congrArg some (by kernel_rfl))
 f48:=func269.trans (congrArg some (by kernel_rfl))
 f49:=⟨Tryz.f270.name,by kernel_rfl,func270.trans (congrArg some (by kernel_rfl))⟩
 f50:=⟨Tryz.f271.name,by kernel_rfl,func271.trans (congrArg some (by kernel_rfl))⟩
 f57:=⟨Tryz.f284.name,by kernel_rfl,func284.trans (congrArg some (by kernel_rfl))⟩
 t0:=underlying0
 a0:=Tryz.isAgg0
 z0:=Tryz.sizeOf0
 v0:=Tryz.zeroValue0
 t3:=underlying3
 a3:=Tryz.isAgg3
 z3:=Tryz.sizeOf3
 v3:=Tryz.zeroValue3
 t4:=underlying4
 a4:=Tryz.isAgg4
 z4:=Tryz.sizeOf4
 v4:=Tryz.zeroValue4
 t5:=underlying5
 a5:=Tryz.isAgg5
 z5:=Tryz.sizeOf5
 v5:=Tryz.zeroValue5
 t9:=underlying9
 a9:=Tryz.isAgg9
 z9:=Tryz.sizeOf9
 v9:=Tryz.zeroValue9
 t22:=underlying118
 a22:=Tryz.isAgg118
 z22:=Tryz.sizeOf118
 v22:=Tryz.zeroValue118
 t25:=underlying247
 a25:=Tryz.isAgg247
 z25:=Tryz.sizeOf247
 v25:=Tryz.zeroValue247
 t39:=underlying229
 a39:=Tryz.isAgg229
 z39:=Tryz.sizeOf229
 v39:=Tryz.zeroValue229
 t45:=underlying356
 a45:=Tryz.isAgg356
 z45:=Tryz.sizeOf356
 v45:=Tryz.zeroValue356
 t46:=underlying357
 a46:=Tryz.isAgg357
 z46:=Tryz.sizeOf357
 v46:=Tryz.zeroValue357
 t50:=underlying308
 a50:=Tryz.isAgg308
 z50:=Tryz.sizeOf308
 v50:=Tryz.zeroValue308
 t53:=underlying136
 a53:=Tryz.isAgg136
 z53:=Tryz.sizeOf136
 v53:=Tryz.zeroValue136
 t55:=underlying363
 a55:=Tryz.isAgg363
 z55:=Tryz.sizeOf363
 v55:=Tryz.zeroValue363
 t66:=underlying371
 a66:=Tryz.isAgg371
 z66:=Tryz.sizeOf371
 v66:=Tryz.zeroValue371
 t70:=underlying375
 a70:=Tryz.isAgg375
 z70:=Tryz.sizeOf375
 v70:=Tryz.zeroValue375
 t76:=underlying385
 a76:=Tryz.isAgg385
 z76:=Tryz.sizeOf385
 v76:=Tryz.zeroValue385
 t77:=underlying386
 a77:=Tryz.isAgg386
 z77:=Tryz.sizeOf386
 v77:=Tryz.zeroValue386
}
theorem U0(r:Rd):(encR r).length=4:=rfl
theorem sortF_any(g:Nat)(cb:Array Value)(blk off cap:Nat)(d:Array Rd)(w:World)(eg:∀args w,(callFunc g args).run prog w=.ok (.enter g args) w)(hcmp:CmpLays prog g cb encR 4 rcf blk off d.size w)(hH:HoldsK encR 4 w blk off d)(hblk:blk<w.heap.size)(hsz:d.size<4611686018427387904):
 Calls prog 203 #[.slice (some (Ad blk off)) d.size cap,.func (.func g) #[] cb] w fun e w'=>
  e=.returned (.tuple #[])∧∃d' n os,PermIn 0 d.size d d'∧SortedIn (fun x y=>decide (rcf x y<0)) 0 d.size d'∧w'=sortWorldK encR 4 w blk off n d' os:=
 AnyQ.slices_SortFunc sortF 4 Tryz.isAgg161 Tryz.sizeOf161 encR U0 X3 rcf swo_rcf g cb blk off cap d w eg hcmp hH hblk hsz
theorem sortF_none(p:Option Addr)(cap:Nat)(fv:Value)(w:World):
 Calls prog 203 #[.slice p 0 cap,fv] w (Re w (.tuple #[])):=AnyF.slices_SortFunc_none sortF p cap fv w
end Go.Proofs.YtnfdfiholcelaaaGreatDoor
