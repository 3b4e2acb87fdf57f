import Derived.Lib.ItoaLen
import Derived.Lib.AppendIntMem
import Derived.ChangeMaps4
import Derived.Test.YtnepnnkdgejheaaGreatDoorKp08
import Derived.Test.YtnepnnkdgejheaaGreatDoorKp11
import Derived.Test.YtnepnnkdgejheaaGreatDoorKp13
set_option maxRecDepth 100000
set_option maxHeartbeats 20000000
namespace Go.Proofs.YtnepnnkdgejheaaGreatDoor
open Go.RowKit Plain Tryz
variable {B K c k m n:Nat}{P:Program}{Q:Exit->Act->World->Prop}{a v:Addr}{et kt t:TypeId}{ops:Array Oper}{rest:List Oper}{s z:Value}{u w w':V6}
abbrev Jsl:V7:=⟨#[48,49,50,51,52,53,54,55,56,57]⟩
theorem toL(s:V7):s.toList=s.data.toList:=ByteArray.toList_eq s
theorem O5(s:V7)(hs:s.size<=9223372036854775807)(w:V6):Va 112 #[.string s] w (Rt w (.bool (!s.data.toList.isEmpty&&s.data.toList.all Yq))):=by
 have hd:(Lib.trimS s.data.toList [48,49,50,51,52,53,54,55,56,57]).isEmpty=s.data.toList.all Yq:=by
  rw[Bool.eq_iff_iff,List.isEmpty_iff,Jcu];simp only[Jog]
 go_enter func112,ntmps112
 go_wp2_with (go_at_call 169;refine Sb (Jra s Jsl _ hs (by decide) (ascii_of_all (by decide))) fun w' y=>?_)
 all_goals go_ret
 . rename_i h
   rw[toL] at h;exact⟨by simp[show s.data=#[] by simpa using h],Below.refl _ _⟩
 . exact⟨by simp[toL],y⟩
theorem Jc1(s:V7)(hs:s.size<=9223372036854775807):∃D:V7,D.data.toList=AB s.data.toList/\D.size<=9223372036854775807/\(∀w,Va 111 #[.string s,.string ⟨#[45]⟩] w (Re w (.string D))):=by
 have h:=Joi s ⟨#[45]⟩;rw[show(⟨#[45]⟩:ByteArray).data.toList=[45] from rfl,Jq8] at h;refine⟨⟨(AB s.data.toList).toArray⟩,rfl,?_,h⟩
 have:(AB s.data.toList).length<=s.data.toList.length:=by unfold AB;split<;>simp
 have e:=Lib.size_eq s
 show(AB s.data.toList).toArray.size<=_
 simp only[List.size_toArray];omega
theorem EU{D:V7}(h:0<D.size):D.data.toList.head?=some D[0]:=by
 obtain⟨⟨l⟩⟩:=D
 cases l with
 |nil=>cases h
 |cons b r=>rfl
theorem Jc2{s:V7}(h:s.data.toList=[48]):s=⟨#[48]⟩:=by obtain⟨⟨l⟩⟩:=s;simp at h;simp[h]
theorem IZ(s:V7)(hs:s.size<=9223372036854775807)(v:Value)(w:V6)(Q:Kc w 0 0 v):
 Va 61 #[.string s] w (Rt w (if BD s.data.toList then .tuple #[Vi (LF s.data.toList),.nilIface] else .tuple #[Vi 0,v])):=by
 obtain⟨D,m,y,R⟩:=Jc1 s hs;have hi:=O5 D y;rw[m] at hi
 have ha:D.size=(AB s.data.toList).length:=by rw[Lib.size_eq,m]
 obtain⟨x,hx⟩:∃x,(!(AB s.data.toList).isEmpty&&(AB s.data.toList).all Yq)=x:=⟨_,rfl⟩;rw[hx] at hi;have hd:∀u,Bw w u->Kc u 0 0 v:=fun u j=>cell_later j Q
 have h0:x=true->0<D.size:=fun e=>by
  rw[e,Bool.and_eq_true] at hx;rw[ha]
  cases hn:AB s.data.toList with
  |nil=>rw[hn] at hx;simp at hx
  |cons b r=>simp
 have Y:∀_:0<D.size,(AB s.data.toList).head?=some D[0]:=fun h=>m▸EU h
 by_cases y:BD s.data.toList=true
 . rw[if_pos y]
   have T:s.size<=18:=by
    have:s.data.toList.length<=(AB s.data.toList).length+1:=by
     unfold AB;split
     . simp only[List.length_tail];omega
     . omega
    have e:=Lib.size_eq s;simp only[BD,Bool.and_eq_true,decide_eq_true_eq] at y
    omega
   have N:=Jrb s (LF s.data.toList) T (Jcv y);simp only[BD,Bool.and_eq_true,decide_eq_true_eq] at y;obtain⟨⟨⟨J,P⟩,X⟩,K⟩:=y;rw[J,K] at hx;subst hx;have h1:=h0 rfl
   have H:¬(10:Int)<(D.size:Int):=by omega
   have M:¬((D[0].toNat:Int)=48/\¬s=⟨#[48]⟩):=by
    rintro⟨Z,G⟩;rw[Y h1,show D[0]=48 from UInt8.toNat_inj.1 (Int.ofNat.inj Z)] at X
    simp at X
    exact G (Jc2 (by simp[X]))
   clear ha m Y hs T hd Q J P X K h0
   have hc:(D[0].toNat:Int)=48/\s=⟨#[48]⟩\/¬(D[0].toNat:Int)=48:=by
    by_cases Z:(D[0].toNat:Int)=48
    . exact .inl ⟨Z,Classical.byContradiction fun G=>M ⟨Z,G⟩⟩
    . exact .inr Z
   generalize LF s.data.toList=n at *;clear M
   rcases hc with⟨hc,rfl⟩|hc
   all_goals
    go_enter func61,ntmps61
    go_wp2_with (first
     |(go_at_call 111;refine Sm (R _) ?_)
     |(go_at_call 112;refine Sb (hi _) fun C j=>?_)
     |(go_at_call 113;refine Sb (N _) fun E hk=>?_))
    go_ret2;exact⟨rfl,Zc j hk⟩
 . rw[if_neg y]
   have hc:x=false\/(x=true/\(10:Int)<(D.size:Int))\/(x=true/\¬(10:Int)<(D.size:Int)/\∃_:0<D.size,(D[0].toNat:Int)=48/\(s.toList==[48])=false):=by
    cases x
    . exact .inl rfl
    . refine .inr ?_
      by_cases H:(10:Int)<(D.size:Int)
      . exact .inl ⟨rfl,H⟩
      . refine .inr ⟨rfl,H,h0 rfl,?_⟩;rw[Bool.and_eq_true] at hx;simp only[BD,Bool.and_eq_true,decide_eq_true_eq,hx,true_and,and_true,not_and,Bool.not_eq_true,Bool.not_eq_false'] at y;have h2:=y (by omega);rw[Y (h0 rfl)] at h2
        simp at h2
        exact⟨congrArg (fun b:UInt8=>(b.toNat:Int)) h2.1,by rw[toL];simpa using h2.2⟩
   clear ha m Y hs Q y h0 hx
   rcases hc with rfl|⟨rfl,H⟩|⟨rfl,H,h0,hc,hs⟩
   all_goals
    go_enter func61,ntmps61
    go_upto_region 3 with(first
     |(go_at_call 111;refine Sm (R _) ?_)
     |(go_at_call 112;refine Sb (hi _) fun C j=>?_;have h1:=hd _ j))
    go_quiet (fail);go_wp2;go_ret2;exact⟨rfl,below_drewN j _⟩
theorem U9{α:Type}{f:α->List Value}{st:TypeId}{by':Nat}{o:Oper}{a:Act}{rs rs':List α}{p:V8}(e w:Operand)(hc:prog.underlying st=some (.slice t))(hi:(prog.info? t).map (fun i=>(i.zero,i.size,i.bytes))=some (some z,m,by'))(ho:o.op=.call { callee:=.builtin .append,args:=#[e,w],argTypes:=#[st,st] })(hx:a.eval w=.slice p n c)(ha:Row f m t K u s rs)(hK:K<=u.heap.size)(hy:Lay u p (rs'.flatMap f))(hn:rs'.length=n)(H:∀a,(f a).length=m)(h1:∀a,∀v∈f a,v.oneCell'=true)(Z:rs.length+n<=10000000)(h:∀j y,Row f m t K y j (rs++rs')->u.grownBy y s.ownBlock->wpList prog ops Q rest (a.put o.dst j) y)(hd:0<m:=by decide)(Y:z.cells.size=m:=by rfl)(X:by'<=1000:=by decide)(G:o.guard=none:=by rfl)(hs:a.eval e=s:=by rfl):wpList prog ops Q (o::rest) a u:=by
 obtain⟨E,R,hk,T,J⟩:=info_parts hi
 have hl:∀l:List α,(l.flatMap f).length=l.length*m:=fun l=>by
  induction l with
  |nil=>simp
  |cons x l M=>rw[List.flatMap_cons,List.length_append,H,M,List.length_cons,Nat.succ_mul];omega
 have N:(rs.length+n)*by'<=140737488355328:=Nat.le_trans (Nat.mul_le_mul Z X) (by decide)
 refine Mf e w ho hc R hk T J hx ha hy (by rw[hl,hn]) (fun v P=>?_) (by unfold maxLen;omega) N hK (fun j y D C=>h j y ?_ C) hd Y G hs
 . obtain⟨x,_,hx⟩:=List.mem_flatMap.1 P;exact h1 x v hx
 . unfold Row
   rw[List.length_append,List.flatMap_append,hn];exact D
abbrev iL(n:Int):List Value:=[Vi n]
abbrev tL(s:V7):List Value:=[.string s]
abbrev CV:=Row iL 1 3
abbrev RL:=Row tL 1 9
theorem F0:(prog.info? 3).map (fun i=>(i.zero,i.size,i.bytes))=some (some (Vi 0),1,8):=by kernel_rfl
theorem VZ:(prog.info? 9).map (fun i=>(i.zero,i.size,i.bytes))=some (some (.string ByteArray.empty),1,16):=by kernel_rfl
theorem WA:prog.underlying 34=some (.slice 3):=by kernel_rfl
theorem O9:prog.underlying 24=some (.slice 9):=by kernel_rfl
theorem Jom:∀n:Int,∀v∈iL n,v.oneCell'=true:=fun n v h=>by simp only[List.mem_singleton] at h;subst h;rfl
theorem Jon:∀s:V7,∀v∈tL s,v.oneCell'=true:=fun n v h=>by simp only[List.mem_singleton] at h;subst h;rfl
theorem CA(w:V6)(t:TypeId)(h:List Value):Lay (w.alloc (.cells h.toArray t)) (some (Ad w.heap.size 0)) h:=.inr ⟨_,0,rfl,(Blk.new w t h).range⟩
abbrev eV(a:Addr):Value:=.iface 411 (.pointer (some a))
abbrev nC(s:V7):Bool:=BD s.data.toList
abbrev nV(s:V7):Int:=LF s.data.toList
theorem Wh{α:Type}{l:List α}{x:α}(h:l[k]?=some x):l.take (k+1)=l.take k++[x]:=by
 rw[List.take_add_one,h];rfl
theorem Wi{a v:V6}(h:Below B a u)(k:Below B u v):Below B a v:=⟨k.os.trans h.os,k.tape.trans h.tape,k.output.trans h.output,Nat.le_trans h.size k.size,fun b y=>(k.block b y).trans (h.block b y)⟩
def NbP(w:V6)(ws:List V7)(v:Addr)(e:Ending)(w':V6):Prop:=(if ws.all nC then ∃s,e=.returned (.tuple #[s,.nilIface])/\CV w.heap.size w' s (ws.map nV) else e=.returned (.tuple #[.slice none 0 0,eV v]))/\Bw w w'
theorem NbP.no{ws:List V7}{x:V7}(hx:ws[k]?=some x)(h:nC x=false)(y:Bw w w'):NbP w ws v (.returned (.tuple #[.slice none 0 0,eV v])) w':=
 ⟨by rw[if_neg (fun e=>by have:=List.all_eq_true.1 e x (List.mem_of_getElem? hx);rw[h] at this;cases this)],y⟩
theorem NbP.yes{ws:List V7}(h:ws.all nC=true)(hi:CV w.heap.size w' s (ws.map nV))(y:Bw w w'):NbP w ws v (.returned (.tuple #[s,.nilIface])) w':=⟨by rw[if_pos h];exact⟨_,rfl,hi⟩,y⟩
theorem Nv(p:V8)(c:Nat)(ws:List V7)(X:∀s∈ws,s.size<=100000)(v:Addr)(w:V6)(Q:Kc w 0 0 (eV v))(hs:TxL w p ws)(hn:ws.length<=100000:=by omega):
 Va 53 #[.slice p ws.length c] w (NbP w ws v):=by
 obtain⟨g,o,rfl,P,hc⟩:=hs.at;have T:=Za hc;have J:=Za X;have K:=Za Q;have G:=Za hn;clear hc X Q hs hn
 go_enter func53,ntmps53
 go_upto_region 3 with fail
 go_loopw [4,11] (fun l ix wr=>∃k:Nat,k<=ws.length/\ix=Vi k/\(ws.take k).all nC=true/\CV w.heap.size wr l ((ws.take k).map nV)/\Bw w wr) (fun _ ix _=>ws.length-(intOf ix).toNat)
 case atStart=>exact⟨0,by omega,rfl,rfl,Row.nil _ _ _ _ _,Below.refl _ _⟩
 case round=>
  obtain⟨k,hk,rfl,ha,j,y⟩:=hrel
  by_cases hlt:k<ws.length
  . have hx:ws[k]?=some ws[k]:=List.getElem?_eq_getElem hlt;obtain⟨x,hd⟩:∃x,ws[k]=x:=⟨_,rfl⟩;have M:=J.o x (hd▸List.getElem_mem hlt);rw[hd] at hx;have Z:=Za hx;have hi:=cell_later y (T.o k x hx);have e:=Za (fun u (h:Bw w u)=>IZ x (by omega) (eV v) u (cell_later h K.o));have H:=Za j;have Y:=Za ha;have m:=Za y
    have D:(k:Int)<(ws.length:Int):=by omega
    have hw:IntKind.i64.wrap ((k:Int)+1)=((k+1:Nat):Int):=by rw[IntKind.wrap_i64]<;>(have:=G.o;omega)
    clear j ha y hd hx M
    cases hq:nC x
    case false=>
     rw[show BD x.data.toList=false from hq] at e
     go_wp2_with (go_at_call 61;refine Sb (e.o _ m.o) fun v1 y=>?_);go_ret2;exact NbP.no Z.o hq (Zc m.o y)
    case true=>
     rw[show BD x.data.toList=true from hq,if_pos rfl] at e
     go_wp2_with (first
      |(go_at_call 61;refine Sb (e.o _ m.o) fun v1 y=>?_)
      |(at_builtin;refine U9 (rs':=[nV x]) (.tmp 23) (.tmp 25) WA F0 rfl rfl (H.o.lq (Zc y Vc)) (Zc m.o (Zc y Vc)).size (CA _ _ _) rfl (fun _=>rfl) Jom (by rw[List.length_map,List.length_take];have:=G.o;omega) ?_;intro C E N hG))
     refine⟨⟨k+1,by omega,by go_num,?_,?_,?_⟩,by simp[intOf];omega⟩
     . rw[Wh Z.o,List.all_append,Y.o];simpa using hq
     . rw[Wh Z.o,List.map_append];exact N
     . have R:=Zc m.o (Zc y (Zb _ (.cells #[Vi (nV x)] 3)));exact Wi R ((H.o.lq (Zc y Vc)).below R.size hG)
  . obtain rfl:k=ws.length:=by omega
    rw[List.take_length] at ha j;have H:=Za j;have Y:=Za ha;clear j ha hk hlt;go_wp2_with fail;go_ret2;exact NbP.yes Y.o H.o y
structure GW (K:Nat) (a:Addr) (w:V6):Prop where
 kg:10<=K
 kw:K<=w.heap.size
 eb:Kc w 0 0 (eV a)
 gv:GV w
 ml:∃m,V2 w 2 0 m
 tab:Lib.TabBelow prog K w "internal/strconv.uint64pow10" .u64 Lib.pow10Tab
theorem DE(y:Below K w u){b j:Nat}{v:Value}(hK:b<K)(h:w.cell? (Ad b j)=some v):u.cell? (Ad b j)=some v:=by
 rw[<-h];simp only[World.cell?,y.block b hK]
theorem GW.on(h:GW K a w)(y:Below K w u):GW K a u:=
 have hk:=h.kg
 ⟨h.kg,Nat.le_trans h.kw y.size,DE y (Nat.lt_of_lt_of_le (by decide) hk) h.eb,DE y (Nat.lt_of_lt_of_le (by decide) hk) h.gv,h.ml.imp fun _ e=>DE y (Nat.lt_of_lt_of_le (by decide) hk) e,h.tab.on y⟩
theorem DF(h:Below B w u)(hK:K<=B):Below K w u:=⟨h.os,h.tape,h.output,h.size,fun b y=>h.block b (Nat.lt_of_lt_of_le y hK)⟩
theorem GW.lq(h:GW K a w)(y:Bw w u):GW K a u:=h.on (DF y h.kw)
theorem GW.dt(h:GW K a w)(y:Dt K w u):GW K a u:=h.on (y.below h.kw)
abbrev itB(n:Int):ByteArray:=⟨(Lib.itoa n).toArray⟩
def okI(n:Int):Prop:=-9223372036854775808<=n/\n<=9223372036854775807
theorem CW(n:Int)(h:okI n)(w:V6)(y:GW K a w):Va 27 #[Vi n] w (Rt w (.string (itB n))):=Jrc n h.1 h.2 w y.tab.here
abbrev BJ(l:V9):ByteArray:=⟨(Lib.join (l.map Lib.itoa) [32]).toArray⟩
def NmL(u:V6)(a:V8)(l:V9):Prop:=∃g o,a=some (Ad g o)/\g<u.heap.size/\∀j x,l[j]?=some x->V2 u g (o+j) x
theorem OA:∀{l:V9},(∀n∈l,okI n)->(Lib.join (l.map Lib.itoa) [32]).length<=22*l.length
 |[],_=>by simp[Lib.join_nil]
 |[x],h=>by
  have:=Lib.itoa_length_le x (h x (by simp)).1 (h x (by simp)).2;simp only[List.map_cons,List.map_nil,Lib.join_one,List.length_singleton];omega
 |x::y::r,h=>by
  have h1:=Lib.itoa_length_le x (h x (by simp)).1 (h x (by simp)).2;have h2:=OA (l:=y::r) (fun n hn=>h n (by simp[hn]));rw[List.map_cons,List.map_cons] at *;rw[Lib.join_length] at *;simp only[Lib.lens,List.map_cons,List.sum_cons,List.length_cons,List.length_map,List.length_nil] at*
  omega
theorem Jc6(w:V6)(o y:Obj):({ w with heap:=(w.alloc o).heap.setIfInBounds w.heap.size y }:World)=w.alloc y:=by
 have h:(w.heap.push o).setIfInBounds w.heap.size y=w.heap.push y:=by
  apply Array.ext
  . simp
  . intro i h1 h2
    by_cases e:i=w.heap.size
    . subst e;simp
    . simp at h2;rw[Array.getElem_setIfInBounds_ne _ (by omega),Array.getElem_push_lt (by omega),Array.getElem_push_lt (by omega)];simpa using h2
 show({ w with heap:=(w.heap.push o).setIfInBounds w.heap.size y }:World)={ w with heap:=w.heap.push y }
 rw[h]
theorem Jk4{es:Array MapEntry}{s:V7}{v:Value}(y:P.underlying t=some (.map kt et))(hk:P.underlying kt=some .string)(hn:Instr.findNow .string (.string s) es.toList 0=some none):
 (Instr.mapUpdate t (.map (some w.heap.size)) (.string s) v).run P (w.alloc (.map es c))=.ok () (w.alloc (.map (es.push ⟨.string s,v,c⟩) (c+1))):=by
 have h:(w.alloc (.map es c)).heap[w.heap.size]?=some (.map es c):=World.alloc_heap_new w _
 simp[Instr.mapUpdate,run_underlying y,MapKept.run_getObj_map h,MapKept.run_checkKey hk (k:=.string s) trivial,MapKept.run_findKey hk hn,MapKept.run_setObj_map _ h,Result.andThen]
 exact Jc6 w _ _
theorem Wj{op:Oper}{a:Act}{es:Array MapEntry}{s:V7}{m x:Operand}(ho:op.op=.insert t m (.const (.string s)) x)(y:P.underlying t=some (.map kt et))(hk:P.underlying kt=some .string)(hn:Instr.findNow .string (.string s) es.toList 0=some none)(h:wpList P ops Q rest a (w.alloc (.map (es.push ⟨.string s,a.eval x,c⟩) (c+1))))(ha:op.guard=none:=by rfl)(hd:op.dst=none:=by rfl)(j:a.eval m=.map (some w.heap.size):=by rfl):wpList P ops Q (op::rest) a (w.alloc (.map es c)):=by
 refine wpList_plain ha fun _ hK=>?_
 unfold Oper.wp execOp
 have e:a.eval (.const (.string s))=.string s:=rfl;simp only[ho,j,e,Sem.run_bind,Sem.run_pure,Result.andThen_ok,Jk4 y hk hn];exact hK _ _ (by rw[hd];exact h)
theorem J8{r:Nat}{es:Array MapEntry}{s:V7}{o:Option (Nat×Value)}(h:P.underlying t=some (.map kt et))(hk:P.underlying kt=some .string)(y:w.heap[r]?=some (.map es c))(j:(zeroValue et).run P w=.ok z w)(m:Instr.findNow .string (.string s) es.toList 0=some o):
 (Instr.lookup t (.map (some r)) (.string s) true).run P w=.ok (.tuple #[(o.map (·.2)).getD z,.bool o.isSome]) w:=by
 cases o<;>simp[Instr.lookup,run_underlying h,MapKept.run_getObj_map y,MapKept.run_checkKey hk (k:=.string s) trivial,MapKept.run_findKey hk m,Result.andThen,j]
abbrev setS:V7:=⟨#[115,101,116]⟩
abbrev Wu:V7:=⟨#[102,97,117,108,116]⟩
abbrev BS:V7:=⟨#[115,116,101,112]⟩
abbrev RZ:V7:=⟨#[102,108,121]⟩
abbrev atS:V7:=⟨#[97,116]⟩
abbrev C0:V7:=⟨#[101,100,103,101,115]⟩
abbrev C1:V7:=⟨#[99,108,101,97,114]⟩
def J9:Array MapEntry:=#[⟨.string setS,.agg #[Vi 3,.func (.func 30) #[] #[]],0⟩,⟨.string Wu,.agg #[Vi 5,.func (.func 31) #[] #[]],1⟩,⟨.string BS,.agg #[Vi 9,.func (.func 32) #[] #[]],2⟩,⟨.string RZ,.agg #[Vi 0,.func (.func 33) #[] #[]],3⟩,⟨.string atS,.agg #[Vi 1,.func (.func 34) #[] #[]],4⟩,⟨.string C0,.agg #[Vi 0,.func (.func 35) #[] #[]],5⟩,⟨.string C1,.agg #[Vi 0,.func (.func 36) #[] #[]],6⟩]
def Jfx:Array MapEntry:=#[⟨.string ⟨#[108,111]⟩,.agg #[.func (.func 85) #[] #[]],0⟩,⟨.string ⟨#[104,105]⟩,.agg #[.func (.func 86) #[] #[]],1⟩,⟨.string ⟨#[110,111,105,115,101]⟩,.agg #[.func (.func 87) #[] #[]],2⟩,⟨.string ⟨#[112,117,115,104]⟩,.agg #[.func (.func 88) #[] #[]],3⟩,⟨.string ⟨#[115,117,114,102,97,99,101,115]⟩,.agg #[.func (.func 89) #[] #[]],4⟩,⟨.string ⟨#[116,114,97,118,101,108]⟩,.agg #[.func (.func 90) #[] #[]],5⟩,⟨.string ⟨#[114,97,116,101]⟩,.agg #[.func (.func 91) #[] #[]],6⟩,⟨.string ⟨#[115,108,97,99,107]⟩,.agg #[.func (.func 92) #[] #[]],7⟩,⟨.string ⟨#[108,105,109,105,116]⟩,.agg #[.func (.func 93) #[] #[]],8⟩,⟨.string ⟨#[99,111,110,102,105,114,109]⟩,.agg #[.func (.func 94) #[] #[]],9⟩,⟨.string ⟨#[119,97,116,99,104]⟩,.agg #[.func (.func 95) #[] #[]],10⟩,⟨.string ⟨#[116,117,114,110]⟩,.agg #[.func (.func 96) #[] #[]],11⟩,⟨.string ⟨#[98,117,105,108,100]⟩,.agg #[.func (.func 97) #[] #[]],12⟩]
theorem OB(w:V6):Va 13 #[] w fun e w'=>e=.returned (.map (some w.heap.size))/\w'=w.alloc (.map J9 7):=by
 have ha:∀u:V6,(Instr.makeMap 54 none).run prog u=.ok (.map (some u.heap.size)) (u.alloc (.map #[] 0)):=fun u=>rfl
 go_enter func13,ntmps13
 go_wp2_with (refine Wj rfl underlying54 underlying9 rfl ?_);go_ret;exact⟨rfl,rfl⟩
theorem WF(w:V6):Va 54 #[] w fun e w'=>e=.returned (.map (some w.heap.size))/\w'=w.alloc (.map Jfx 13):=by
 have ha:∀u:V6,(Instr.makeMap 127 none).run prog u=.ok (.map (some u.heap.size)) (u.alloc (.map #[] 0)):=fun u=>rfl
 go_enter func54,ntmps54
 go_wp2_with (refine Wj rfl underlying127 underlying9 rfl ?_);go_ret;exact⟨rfl,rfl⟩
def fo(j:Nat):Nat:=if j=12 then 14 else j
theorem WG(j:Nat)(h:j<13)(D o:Nat)(w:V6):Va (85+j) #[Ve D o] w (Re w (Ve D (o+fo j))):=by
 rcases(show j=0\/j=1\/j=2\/j=3\/j=4\/j=5\/j=6\/j=7\/j=8\/j=9\/j=10\/j=11\/j=12 by omega) with rfl|rfl|rfl|rfl|rfl|rfl|rfl|rfl|rfl|rfl|rfl|rfl|rfl
 . go_enter func85,ntmps85;go_wp2;go_ret;exact⟨rfl,rfl⟩
 . go_enter func86,ntmps86;go_wp2;go_ret;exact⟨rfl,rfl⟩
 . go_enter func87,ntmps87;go_wp2;go_ret;exact⟨rfl,rfl⟩
 . go_enter func88,ntmps88;go_wp2;go_ret;exact⟨rfl,rfl⟩
 . go_enter func89,ntmps89;go_wp2;go_ret;exact⟨rfl,rfl⟩
 . go_enter func90,ntmps90;go_wp2;go_ret;exact⟨rfl,rfl⟩
 . go_enter func91,ntmps91;go_wp2;go_ret;exact⟨rfl,rfl⟩
 . go_enter func92,ntmps92;go_wp2;go_ret;exact⟨rfl,rfl⟩
 . go_enter func93,ntmps93;go_wp2;go_ret;exact⟨rfl,rfl⟩
 . go_enter func94,ntmps94;go_wp2;go_ret;exact⟨rfl,rfl⟩
 . go_enter func95,ntmps95;go_wp2;go_ret;exact⟨rfl,rfl⟩
 . go_enter func96,ntmps96;go_wp2;go_ret;exact⟨rfl,rfl⟩
 . go_enter func97,ntmps97;go_wp2;go_ret;exact⟨rfl,rfl⟩
theorem Jc7(j:Nat)(h:j<13)(args:Array Value)(w:V6):(callFunc (85+j) args).run prog w=.ok (.enter (85+j) args) w:=by
 rcases(show j=0\/j=1\/j=2\/j=3\/j=4\/j=5\/j=6\/j=7\/j=8\/j=9\/j=10\/j=11\/j=12 by omega) with rfl|rfl|rfl|rfl|rfl|rfl|rfl|rfl|rfl|rfl|rfl|rfl|rfl<;>kernel_rfl
def Jfy:List V7:=[⟨#[108,111]⟩,⟨#[104,105]⟩,⟨#[110,111,105,115,101]⟩,⟨#[112,117,115,104]⟩,⟨#[115,117,114,102,97,99,101,115]⟩,⟨#[116,114,97,118,101,108]⟩,⟨#[114,97,116,101]⟩,⟨#[115,108,97,99,107]⟩,⟨#[108,105,109,105,116]⟩,⟨#[99,111,110,102,105,114,109]⟩,⟨#[119,97,116,99,104]⟩,⟨#[116,117,114,110]⟩,⟨#[98,117,105,108,100]⟩]
def BE(s:V7):Option Nat:=Jfy.findIdx? (s==·)
theorem DG(s:V7)(g:Nat->Value):∀(L:List V7) (n:Nat) (y:List MapEntry),y.map (fun e=>(e.key,e.val))=(L.zipIdx n).map (fun p=>(Value.string p.1,g p.2))->Instr.findNow .string (.string s) y n=some ((L.findIdx? (s==·)).map fun j=>(n+j,g (n+j)))
 |[],n,[],_=>rfl
 |[],n,_::_,h=>by simp at h
 |_::_,n,[],h=>by simp at h
 |k::L,n,e::y,h=>by
  simp only[List.map_cons,List.zipIdx_cons,List.cons.injEq,Prod.mk.injEq] at h;obtain⟨⟨h1,h2⟩,h3⟩:=h;rw[Instr.findNow,h1,List.findIdx?_cons]
  show(match some (s==k) with|some true=>some (some (n,e.val))|some false=>Instr.findNow .string (.string s) y (n+1)|none=>none)=_
  cases s==k
  . simp only[Bool.false_eq_true,if_false];rw[DG s g L (n+1) y h3,Option.map_map]
    congr 2
    funext j
    simp only[Function.comp,Nat.add_assoc,Nat.add_comm 1 j]
  . simp[h2]
theorem Jfz(s:V7):Instr.findNow .string (.string s) Jfx.toList 0=some ((BE s).map fun j=>(0+j,.agg #[.func (.func (85+(0+j))) #[] #[]])):=DG s (fun j=>.agg #[.func (.func (85+j)) #[] #[]]) Jfy 0 _ rfl
theorem Row.cap{α:Type}{f:α->List Value}{a:V8}{rs:List α}(h:Row f m t K u (.slice a n c) rs):rs.length<=c:=by
 rcases h.2 with⟨e,h0⟩|⟨_,cap,ha,e,_,_,h3,_⟩
 . omega
 . simp only[Value.slice.injEq] at e;rw[e.2.2];exact h3
theorem Zhr(p:V8)(c:Nat)(l:V9)(hn:l.length<=1000)(h0:l≠[])(hk:∀n∈l,okI n)(w:V6)(X:GW K a w)(hs:NmL w p l):
 Va 62 #[.slice p l.length c] w (Rt w (.string (BJ l))):=by
 obtain⟨g,o,rfl,_,hc⟩:=hs;have N:=Za hc;have Q:=Za hk;have P:=Za X;have Z:=Za hn;have D:=Za h0;clear hc hk X hn h0
 go_enter func62,ntmps62
 go_upto_region 3 with fail
 go_loopw [3,8] (fun r ix wr=>∃k:Nat,k<=l.length/\ix=Vi k/\RL w.heap.size wr r ((l.take k).map itB)/\Bw w wr) (fun _ ix _=>l.length-(intOf ix).toNat)
 case atStart=>exact⟨0,by omega,rfl,Row.nil _ _ _ _ _,Below.refl _ _⟩
 case round=>
  obtain⟨k,hk,rfl,H,y⟩:=hrel
  by_cases hlt:k<l.length
  . have hx:l[k]?=some l[k]:=List.getElem?_eq_getElem hlt;obtain⟨x,ha⟩:∃x,l[k]=x:=⟨_,rfl⟩;have G:=Q.o x (ha▸List.getElem_mem hlt);rw[ha] at hx;have C:=Za hx;have hl:=cell_later y (N.o k x hx);have E:=Za (fun u (h:Bw w u)=>CW x G u (P.o.lq h));have R:=Za H;have Y:=Za y
    have U:(k:Int)<(l.length:Int):=by omega
    have hw:IntKind.i64.wrap ((k:Int)+1)=((k+1:Nat):Int):=by rw[IntKind.wrap_i64]<;>(have:=Z.o;omega)
    clear H y ha hx G
    go_wp2_with (first
     |(go_at_call 27;refine Sb (E.o _ Y.o) fun v1 y=>?_)
     |(at_builtin;refine U9 (rs':=[itB x]) (.tmp 12) (.tmp 15) O9 VZ rfl rfl (R.o.lq (Zc y Vc)) (Zc Y.o (Zc y Vc)).size (CA _ _ _) rfl (fun _=>rfl) Jon (by rw[List.length_map,List.length_take];have:=Z.o;omega) ?_;intro A B F hG))
    refine⟨⟨k+1,by omega,by go_num,?_,?_⟩,by simp[intOf];omega⟩
    . rw[Wh C.o,List.map_append];exact F
    . have T:=Zc Y.o (Zc y (Zb _ (.cells #[.string (itB x)] 9)));exact Wi T ((R.o.lq (Zc y Vc)).below T.size hG)
  . obtain rfl:k=l.length:=by omega
    rw[List.take_length] at H;obtain⟨q,I,rfl⟩:=H.slice;rw[List.length_map] at H;obtain⟨L,rfl,hi,J⟩:=Row.at (f:=tL) (m:=1) (fun _=>rfl) H (by simpa using D.o);have hd:=H.cap;rw[List.length_map] at hd;have M:=Za (Jq9 L 0 I (l.map itB) ⟨#[32]⟩ wr (fun j x hx=>by have:=J j x hx 0 _ rfl;simpa using this) hi (by rw[List.length_map];have:=Z.o;omega) (by rw[List.length_map];exact hd) (by rw[List.map_map];have:=OA Q.o;have:=Z.o;show(Lib.join (l.map Lib.itoa) [32]).length<=_;omega));rw[List.length_map,List.map_map] at M;clear H hk hlt J hd
    go_wp2_with (go_at_call 114;refine M.o.mono ?_;rintro e v1 ⟨rfl,O⟩);go_ret;exact⟨rfl,Zc y O⟩
abbrev okS:V7:=⟨#[111,107]⟩
abbrev erS:V7:=⟨#[101,114,114,111,114,32]⟩
def Yt(e:Int):ByteArray:=if e=0 then okS else erS++itB e
theorem Uf(e:Int)(h:okI e)(w:V6)(y:GW K a w):Va 21 #[Vi e] w fun r w'=>r=.returned (.string (Yt e))/\Bw w w':=by
 have hi:=CW e h w y
 by_cases h0:e=0
 . subst h0
   go_enter func21,ntmps21
   go_wp2;go_ret;exact⟨rfl,Below.refl _ _⟩
 . have j:Yt e=erS++itB e:=if_neg h0;rw[j];have hl:=Lib.itoa_length_le e h.1 h.2
   have H:¬9223372036854775807<6+(Lib.itoa e).length:=by omega
   go_enter func21,ntmps21
   go_wp2_with (go_at_call 27;refine hi.mono ?_;rintro e v1 ⟨rfl,m⟩);go_ret;exact⟨rfl,m⟩
theorem Jf0(x y:List UInt8):(⟨x.toArray⟩:ByteArray)++(⟨y.toArray⟩:ByteArray)=⟨(x++y).toArray⟩:=by
 apply ByteArray.ext;simp
theorem Jc8{l:V9}{x:Int}(hk:0<k)(h:l[k]?=some x):Lib.join ((l.take (k+1)).map Lib.itoa) [32]=Lib.join ((l.take k).map Lib.itoa) [32]++[32]++Lib.itoa x:=by
 cases l with
 |nil=>simp at h
 |cons y r=>
  obtain⟨j,rfl⟩:∃j,k=j+1:=⟨k-1,by omega⟩
  have m:(r.map Lib.itoa)[j]?=some (Lib.itoa x):=by rw[List.getElem?_map,show r[j]?=some x by simpa using h];rfl
  rw[List.take_succ_cons,List.take_succ_cons,List.map_cons,List.map_cons,Lib.join_cons,Lib.join_cons,List.map_take,List.map_take,Lib.joinTail_take_succ _ _ _ _ m,List.append_assoc,List.append_assoc,List.append_assoc]
theorem Jai(p:V8)(c:Nat)(l:V9)(hn:l.length<=1000)(h0:0<l.length)(hk:∀n∈l,okI n)(w:V6)(j:GW K a w)(hs:NmL w p l):
 Va 24 #[.slice p l.length c] w (Rt w (.string (BJ l))):=by
 obtain⟨g,o,rfl,_,hc⟩:=hs;have G:=Za hc;have m:=Za hk;have T:=Za j;have H:=Za hn;have Z:l[0]?=some l[0]:=List.getElem?_eq_getElem h0;have Y:=m.o _ (List.getElem_mem h0);have J:=hc 0 _ Z;have M:=CW l[0] Y w j;have N:Hd (BJ (l.take 1)=itB l[0]):=Za (by unfold BJ;rw[show l.take 1=[l[0]] by rw[List.take_add_one,Z];rfl];simp[Lib.join_one]);clear hc hk j hn Y Z;generalize l[0]=y0 at*
 have C:(0:Int)<(l.length:Int):=by omega
 rw[Nat.add_zero] at J
 go_enter func24,ntmps24
 go_upto_region 3 with(go_at_call 27;refine M.mono ?_;rintro e v1 ⟨rfl,hi⟩)
 go_loopw [3,4] (fun r ix wr=>∃k:Nat,1<=k/\k<=l.length/\ix=Vi k/\r=.string (BJ (l.take k))/\Bw w wr) (fun _ ix _=>l.length-(intOf ix).toNat)
 case atStart=>exact⟨1,by omega,by omega,rfl,by rw[N.o],hi⟩
 case round=>
  obtain⟨k,E,hk,rfl,rfl,y⟩:=hrel
  by_cases hlt:k<l.length
  . have hx:l[k]?=some l[k]:=List.getElem?_eq_getElem hlt;obtain⟨x,hd⟩:∃x,l[k]=x:=⟨_,rfl⟩;have ha:=m.o x (hd▸List.getElem_mem hlt);rw[hd] at hx;have F:=cell_later y (G.o k x hx);have P:=Za (fun u (h:Bw w u)=>CW x ha u (T.o.lq h));have X:=Za y;have D:Hd (BJ (l.take (k+1))=BJ (l.take k)++⟨#[32]⟩++itB x):=Za (by unfold BJ;rw[Jc8 (by omega) hx,show(⟨#[32]⟩:ByteArray)=⟨[(32:UInt8)].toArray⟩ from rfl,Jf0,Jf0])
    have I:(k:Int)<(l.length:Int):=by omega
    have hw:IntKind.i64.wrap ((k:Int)+1)=((k+1:Nat):Int):=by rw[IntKind.wrap_i64]<;>(have:=H.o;omega)
    have Q:(BJ (l.take k)).size<=22*(l.take k).length:=OA (fun n hn=>m.o n (List.mem_of_mem_take hn));have hl:=Lib.itoa_length_le x ha.1 ha.2;rw[List.length_take] at Q
    have L:¬9223372036854775807<(BJ (l.take k)).size+1:=by have:=H.o;omega
    have O:¬9223372036854775807<(BJ (l.take k)).size+1+(Lib.itoa x).length:=by have:=H.o;omega
    clear y hd hx ha Q hl;generalize BJ (l.take k)=R at*
    go_wp2_with (go_at_call 27;refine Sb (P.o _ X.o) fun v1 y=>?_);exact⟨⟨k+1,by omega,by omega,by go_num,by rw[D.o],Zc X.o y⟩,by simp[intOf];omega⟩
  . obtain rfl:k=l.length:=by omega
    rw[List.take_length];go_wp2_with fail;go_ret;exact⟨rfl,y⟩
theorem ZN(s:V7):∃D:V7,D.data.toList=AB s.data.toList/\((∃_:0<s.size,(s[0].toNat:Int)=45/\s.extract 1 s.size=D/\s.data.toList.head?=some 45/\(s.toList==D.toList)=false)\/(s.size=0/\s=D/\¬s.data.toList.head?=some 45)\/(∃_:0<s.size,¬(s[0].toNat:Int)=45/\s=D/\¬s.data.toList.head?=some 45)):=by
 have h0:∀_:0<s.size,(s.data.toList.head?=some 45↔(s[0].toNat:Int)=45):=fun h=>by
  rw[EU h,Option.some.injEq,<-UInt8.toNat_inj];exact⟨fun e=>by rw[e];rfl,fun e=>Int.ofNat.inj e⟩
 by_cases h:s.data.toList.head?=some 45
 . have y:0<s.size:=by
    rw[Lib.size_eq];cases hl:s.data.toList with
    |nil=>rw[hl] at h;cases h
    |cons b r=>simp
   have hd:(s.extract 1 s.size).data.toList=s.data.toList.tail:=by
    rw[Lib.extract_data,List.drop_one,List.take_of_length_le];rw[List.length_tail,<-Lib.size_eq];omega
   refine⟨s.extract 1 s.size,by rw[hd];unfold AB;rw[if_pos h],.inl ⟨y,(h0 y).1 h,rfl,h,?_⟩⟩;rw[toL,toL,hd];refine beq_eq_false_iff_ne.2 fun e=>?_;have:=congrArg List.length e;rw[List.length_tail,<-Lib.size_eq] at this
   omega
 . refine⟨s,by unfold AB;rw[if_neg h],.inr ?_⟩
   by_cases y:s.size=0
   . exact .inl ⟨y,rfl,h⟩
   . exact .inr ⟨by omega,fun e=>h ((h0 (by omega)).2 e),rfl,h⟩
def rnV(s:V7):Value:=.tuple #[Vi (if nC s then nV s else 0),.bool (nC s)]
theorem C9{s:V7}(h:nC s=false):rnV s=.tuple #[Vi 0,.bool false]:=by unfold rnV;rw[h];rfl
theorem Ua{s:V7}(h:nC s=true):rnV s=.tuple #[Vi (nV s),.bool true]:=by unfold rnV;rw[h];rfl
def nvP(s D:V7):Prop:=(nV s=-BC (AB s.data.toList) (AB s.data.toList).length/\(s.toList==D.toList)=false)\/(nV s=BC (AB s.data.toList) (AB s.data.toList).length/\s=D)
theorem Je1{D:V7}(h:k<D.size):D.data.toList.getD k 48=D[k]:=by
 have e:=Lib.size_eq D;rw[List.getD_eq_getElem?_getD,List.getElem?_eq_getElem (by omega),Option.getD_some]
 rfl
theorem Jnf(b:UInt8):b.toNat<256:=b.toNat_lt
theorem Jck(h:k<=10):(10:Int)^k<=10000000000:=by
 rcases(show k=0\/k=1\/k=2\/k=3\/k=4\/k=5\/k=6\/k=7\/k=8\/k=9\/k=10 by omega) with rfl|rfl|rfl|rfl|rfl|rfl|rfl|rfl|rfl|rfl|rfl<;>decide
theorem Je2{d:List UInt8}(h:(d.take k).all Yq=true)(hk:k<=d.length):0<=BC d k/\BC d k<10^k:=by
 have e:∀j,j<=k->BC (d.take k) j=BC d j:=fun j=>by
  induction j with
  |zero=>intro _;rfl
  |succ j ih=>intro y;rw[BC,BC,ih (by omega),List.getD_eq_getElem?_getD,List.getD_eq_getElem?_getD,List.getElem?_take_of_lt (by omega)]
 rw[<-e k (Nat.le_refl _)];exact I7 h k (by rw[List.length_take];omega)
theorem Jcl{d:List UInt8}(hk:k<d.length)(h:Yq (d.getD k 48)=false):d.all Yq=false:=by
 refine Bool.eq_false_iff.2 fun e=>?_;have:=List.all_eq_true.1 e d[k] (List.getElem_mem hk);rw[List.getD_eq_getElem?_getD,List.getElem?_eq_getElem hk,Option.getD_some,this] at h
 cases h
theorem Jj7{d:List UInt8}(hk:k<d.length)(ha:(d.take k).all Yq=true)(h:Yq (d.getD k 48)=true):(d.take (k+1)).all Yq=true:=by
 rw[List.getD_eq_getElem?_getD,List.getElem?_eq_getElem hk,Option.getD_some] at h;rw[Wh (List.getElem?_eq_getElem hk),List.all_append,ha]
 simpa using h
theorem Mc(s:V7)(hs:s.size<=100000)(w:V6):
 Va 42 #[.string s] w (Rt w (rnV s)):=by
 obtain⟨D,R,hc⟩:=ZN s
 have E:D.size=(AB s.data.toList).length:=by rw[Lib.size_eq,R]
 have hh:∀_:0<D.size,(AB s.data.toList).head?=some D[0]:=fun h=>R▸EU h
 have T:(D.size<1/\nC s=false)\/(¬D.size<1/\10<D.size/\nC s=false)\/(¬D.size<1/\¬10<D.size/\∃_:0<D.size,(D[0].toNat:Int)=48/\(s.toList==[48])=false/\nC s=false)\/(¬D.size<1/\¬10<D.size/\(nC s=(AB s.data.toList).all Yq)/\∃_:0<D.size,((D[0].toNat:Int)=48/\(s.toList==[48])=true\/¬(D[0].toNat:Int)=48)):=by
  rw[toL]
  show _/\BD _=_\/_/\_/\BD _=_\/_/\_/\_\/_
  by_cases Y:D.size<1
  . refine .inl ⟨Y,?_⟩
    unfold BD
    rw[List.eq_nil_of_length_eq_zero (show(AB s.data.toList).length=0 by omega)];rfl
  . refine .inr ?_
    by_cases J:10<D.size
    . refine .inl ⟨Y,J,?_⟩
      unfold BD
      rw[decide_eq_false (show ¬(AB s.data.toList).length<=10 by omega)];simp
    . refine .inr ?_
      have K:0<D.size:=by omega
      have F:BD s.data.toList=(!((D[0]==48)&&!(s.data.toList==[48]))&&(AB s.data.toList).all Yq):=by
       unfold BD
       rw[decide_eq_true (show(AB s.data.toList).length<=10 by omega),hh K,show(AB s.data.toList).isEmpty=false by
        rw[List.isEmpty_eq_false_iff];intro e;have e0:D.size=0:=by rw[E,e];rfl
        omega]
       simp
      by_cases X:(D[0].toNat:Int)=48
      . have M:D[0]=48:=UInt8.toNat_inj.1 (Int.ofNat.inj X)
        cases a7:(s.data.toList==[48])
        . exact .inl ⟨Y,J,K,X,rfl,by show BD _=_;rw[F,M,a7];rfl⟩
        . exact .inr ⟨Y,J,by show BD _=_;rw[F,M,a7];simp,K,.inl ⟨X,rfl⟩⟩
      . have M:(D[0]==48)=false:=beq_eq_false_iff_ne.2 (fun e=>X (by rw[e];rfl));exact .inr ⟨Y,J,by show BD _=_;rw[F,M];simp,K,.inr X⟩
 have hf:=R;have N:=Za E;clear R E hh;have Q:=Za T;have Z:Hd (∀k,k<D.size->∃m:Int,0<=m/\m<256/\(((AB s.data.toList).getD k 48).toNat:Int)=m/\∀h:k<D.size,((D[k]'h).toNat:Int)=m):=Za (fun k h=>⟨((D[k]'h).toNat:Int),by omega,by have:=Jnf (D[k]'h);omega,by rw[<-hf,Je1 h],fun _=>rfl⟩);clear T hf
 go_enter func42,ntmps42
 rcases hc with⟨I,z2,y,j,z4⟩|⟨I,y,j⟩|⟨I,z2,y,j⟩
 case' inl=>
  have Z3:Hd (nvP s D):=Za (.inl ⟨if_pos j,z4⟩);have Z5:=Za y;clear z4 y
  go_upto_region 4 with fail;rw[Z5.o];clear Z5
 case inr.inl=>
  have H:Hd (nC s=false):=Za (by rcases Q.o with h|h|h|h<;>first|exact h.2|exact absurd I (by rw[y];omega));clear y j Q Z N;go_wp2_with fail;go_ret2;exact⟨by rw[C9 H.o];rfl,Below.refl _ _⟩
 case' inr.inr=>
  have Z3:Hd (nvP s D):=Za (.inr ⟨if_neg j,y⟩);subst y
  go_upto_region 4 with fail
 all_goals
  rcases Q.o with⟨L,hn⟩|⟨L,O,hn⟩|⟨L,O,q3,q4,q5,hn⟩|⟨L,O,hn,q3,T⟩
  rotate_left 3
  . have H:=Za hn;clear Q hn j;have U:Hd (¬10<(AB s.data.toList).length):=Za (by rw[<-N.o];exact O)
    rcases T with⟨q4,q5⟩|q4
    all_goals
     go_upto_region 8 with fail;clear q4
     go_loopw [5,6] (fun n ix wr=>∃k:Nat,k<=(AB s.data.toList).length/\ix=Vi k/\n=Vi (BC (AB s.data.toList) k)/\((AB s.data.toList).take k).all Yq=true/\wr=w) (fun _ ix _=>(AB s.data.toList).length-(intOf ix).toNat)
     case atStart=>exact⟨0,by omega,rfl,rfl,rfl,rfl⟩
     case round=>
      obtain⟨k,hk,rfl,rfl,ha,rfl⟩:=hrel
      by_cases hlt:k<(AB s.data.toList).length
      . have hd:=hlt;rw[<-N.o] at hd;obtain⟨m,m0,m1,A,hj⟩:=Z.o k hd;have hg:=Int.ofNat_lt.2 hd;have HV:=Za (Je2 ha hk);have HS:Hd (BC (AB s.data.toList) (k+1)=10*BC (AB s.data.toList) k+(m-48)):=Za (by rw[BC,A]);have B:Hd (Yq ((AB s.data.toList).getD k 48)=(decide (48<=m)&&decide (m<=57))):=Za (by unfold Yq;rw[<-A];congr 1<;>(apply decide_eq_decide.2;omega));have W:=Za ha
        have hw:IntKind.i64.wrap ((k:Int)+1)=((k+1:Nat):Int):=by rw[IntKind.wrap_i64]<;>(have:=U.o;omega)
        clear A ha Z
        by_cases d1:m<48
        . go_wp2_with fail;go_ret2;exact⟨by rw[C9 (H.o.trans (Jcl hlt (B.o.trans (by simp;omega))))];rfl,Below.refl _ _⟩
        . by_cases d2:57<m
          . go_wp2_with fail;go_ret2;exact⟨by rw[C9 (H.o.trans (Jcl hlt (B.o.trans (by simp;omega))))];rfl,Below.refl _ _⟩
          . have hV:=HV.o;generalize hi:BC (AB s.data.toList) k=V at *;have he:=Jck (show k<=10 by have:=U.o;omega)
            have w1:IntKind.i64.wrap (10*V)=10*V:=by rw[IntKind.wrap_i64]<;>omega
            have w2:IntKind.u8.wrap (m-48)=m-48:=by simp only[IntKind.wrap,IntKind.bits,IntKind.signed,Bool.false_and,Bool.false_eq_true,if_false];omega
            have w3:IntKind.i64.wrap (m-48)=m-48:=by rw[IntKind.wrap_i64]<;>omega
            have w4:IntKind.i64.wrap (10*V+(m-48))=10*V+(m-48):=by rw[IntKind.wrap_i64]<;>omega
            clear hV hi he;go_wp2_with fail;exact⟨⟨k+1,by omega,by go_num,by rw[HS.o],Jj7 hlt W.o (B.o.trans (by simp;omega)),by trivial⟩,by simp[intOf];omega⟩
      . obtain rfl:k=(AB s.data.toList).length:=by omega
        rw[List.take_length] at ha;have HM:=Za (H.o.trans ha);have W:=Za ha;have hg:=N.o
        rcases Z3.o with⟨G,P⟩|⟨G,P⟩
        . first
          |(exfalso;simp at P;done)
          |(have C:=Za G;have hV:=I7 W.o _ (Nat.le_refl _);have he:=Jck (show(AB s.data.toList).length<=10 by have:=U.o;omega);generalize BC (AB s.data.toList) (AB s.data.toList).length=V at *;have w1:IntKind.i64.wrap (-V)=-V:=(by rw[IntKind.wrap_i64]<;>omega);clear hV he ha G Z;go_wp2_with fail;go_ret2;exact⟨by rw[Ua HM.o,C.o];rfl,Below.refl _ _⟩)
        . have C:=Za G;clear ha G Z
          first
          |(subst P;go_wp2_with fail;go_ret2;exact⟨by rw[Ua HM.o,C.o];rfl,Below.refl _ _⟩)
          |(clear P;go_wp2_with fail;go_ret2;exact⟨by rw[Ua HM.o,C.o];rfl,Below.refl _ _⟩)
  all_goals
   have H:=Za hn;clear Q Z hn j;go_wp2_with fail
   all_goals go_ret2
   all_goals exact⟨by rw[C9 H.o];rfl,Below.refl _ _⟩
def RbP(w:V6)(ws:List V7)(e:Ending)(w':V6):Prop:=(if ws.all nC then ∃s,e=.returned (.tuple #[s,.bool true])/\CV w.heap.size w' s (ws.map nV) else e=.returned (.tuple #[.slice none 0 0,.bool false]))/\Bw w w'
theorem RbP.no{ws:List V7}{x:V7}(hx:ws[k]?=some x)(h:nC x=false)(y:Bw w w'):RbP w ws (.returned (.tuple #[.slice none 0 0,.bool false])) w':=
 ⟨by rw[if_neg (fun e=>by have:=List.all_eq_true.1 e x (List.mem_of_getElem? hx);rw[h] at this;cases this)],y⟩
theorem RbP.yes{ws:List V7}(h:ws.all nC=true)(hi:CV w.heap.size w' s (ws.map nV))(y:Bw w w'):RbP w ws (.returned (.tuple #[s,.bool true])) w':=⟨by rw[if_pos h];exact⟨_,rfl,hi⟩,y⟩
theorem EO(p:V8)(c:Nat)(ws:List V7)(hn:ws.length<=100000)(Y:∀s∈ws,s.size<=100000)(w:V6)(hs:TxL w p ws):
 Va 19 #[.slice p ws.length c] w (RbP w ws):=by
 obtain⟨g,o,rfl,K,hc⟩:=hs.at;have R:=Za hc;have T:=Za Y;have X:=Za hn;clear hc Y hs hn
 go_enter func19,ntmps19
 go_upto_region 3 with fail
 go_loopw [4,5] (fun l ix wr=>∃k:Nat,k<=ws.length/\ix=Vi k/\(ws.take k).all nC=true/\CV w.heap.size wr l ((ws.take k).map nV)/\Bw w wr) (fun _ ix _=>ws.length-(intOf ix).toNat)
 case atStart=>exact⟨0,by omega,rfl,rfl,Row.nil _ _ _ _ _,Below.refl _ _⟩
 case round=>
  obtain⟨k,hk,rfl,ha,y,h⟩:=hrel
  by_cases hlt:k<ws.length
  . have hx:ws[k]?=some ws[k]:=List.getElem?_eq_getElem hlt;obtain⟨x,hd⟩:∃x,ws[k]=x:=⟨_,rfl⟩;have Q:=T.o x (hd▸List.getElem_mem hlt);rw[hd] at hx;have e:=Za hx;have M:=cell_later h (R.o k x hx);have j:=Za (Mc x Q);have m:=Za y;have H:=Za ha;have Z:=Za h
    have N:(k:Int)<(ws.length:Int):=by omega
    have hw:IntKind.i64.wrap ((k:Int)+1)=((k+1:Nat):Int):=by rw[IntKind.wrap_i64]<;>(have:=X.o;omega)
    clear y ha h hd hx Q
    cases hq:nC x
    case false=>
     rw[C9 hq] at j
     go_wp2_with (go_at_call 42;refine Sb (j.o _) fun v1 h=>?_);go_ret2;exact RbP.no e.o hq (Zc Z.o h)
    case true=>
     rw[Ua hq] at j
     go_wp2_with (first
      |(go_at_call 42;refine Sb (j.o _) fun v1 h=>?_)
      |(at_builtin;refine U9 (rs':=[nV x]) (.tmp 24) (.tmp 26) WA F0 rfl rfl (m.o.lq (Zc h Vc)) (Zc Z.o (Zc h Vc)).size (CA _ _ _) rfl (fun _=>rfl) Jom (by rw[List.length_map,List.length_take];have:=X.o;omega) ?_;intro P D J hG))
     refine⟨⟨k+1,by omega,by go_num,?_,?_,?_⟩,by simp[intOf];omega⟩
     . rw[Wh e.o,List.all_append,H.o];simpa using hq
     . rw[Wh e.o,List.map_append];exact J
     . have G:=Zc Z.o (Zc h (Zb _ (.cells #[Vi (nV x)] 3)));exact Wi G ((m.o.lq (Zc h Vc)).below G.size hG)
  . obtain rfl:k=ws.length:=by omega
    rw[List.take_length] at ha y;have m:=Za y;have H:=Za ha;clear y ha hk hlt;go_wp2_with fail;go_ret2;exact RbP.yes H.o m.o h
end Go.Proofs.YtnepnnkdgejheaaGreatDoor
