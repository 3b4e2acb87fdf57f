
import Derived.Test.YtnfdfiholcelaaaGreatDoorJp02
import Derived.Test.YtnfdfiholcelaaaGreatDoorJp06
set_option maxRecDepth 100000
set_option maxHeartbeats 20000000
namespace Go.Proofs.YtnfdfiholcelaaaGreatDoor
open Go.RowKit Plain Tryz
variable {B K O Z cap j k n q:Nat}{C R S T b hi i lo u v z:Int}{L:List Value}{a:Option Addr}{l:List Int}{o y:Bool}{w w' w0:World}{x:Value}
def atB(S i z:Int)(y:Bool):Bool:=y&&betw z (i-S) (i+S)
def fineW(S i z:Int)(o y:Bool):Bool:=o||atB S i z y
def wI(S C i b z:Int)(o y:Bool):Int:=if fineW S i z o y then i else if b+1=C then 0 else i
def wB(S i b z:Int)(o y:Bool):Int:=if fineW S i z o y then b else b+1
def wO(S C i b z:Int)(o y:Bool):Bool:=if fineW S i z o y then o else decide (b+1=C)
theorem w_fine(h:fineW S i z o y=true):wI S C i b z o y=i∧wB S i b z o y=b∧wO S C i b z o y=o:=by
 unfold wI wB wO;rw[if_pos h,if_pos h,if_pos h];exact⟨rfl,rfl,rfl⟩
theorem w_last(h:fineW S i z o y=false)(hq:b+1=C):wI S C i b z o y=0∧wB S i b z o y=b+1∧wO S C i b z o y=true:=by
 unfold wI wB wO;rw[h];simp[hq]
theorem w_more(h:fineW S i z o y=false)(hq:b+1≠C):wI S C i b z o y=i∧wB S i b z o y=b+1∧wO S C i b z o y=false:=by
 unfold wI wB wO;rw[h];simp[hq]
theorem atPlace_any(T R S C i b:Int)(o y:Bool)(z:Int)(i0:-1000≤i)(i1:i≤1000)(s0:0≤S)(s1:S≤1000)(w:World):
 Calls prog 160 #[.agg #[Vi T,Vi R,Vi S,Vi C],.agg #[Vi i,Vi b,.bool o],.agg #[.bool y,Vi z]] w (Rt w (.bool (atB S i z y))):=by
 have f1:=Wd z (i-S) (i+S);have HN:=Za (Zc (RS.new w T R S C i b o).2.2 (Zb _ (.cells #[.bool y,Vi z] 131)))
 unfold atB
 generalize betw z (i-S) (i+S)=x at*
 cases y
 · go_enter func160,ntmps160
   go_wp2;go_ret;exact⟨rfl,HN.out⟩
 · go_enter func160,ntmps160
   go_wp2_with (go_at_call 76;refine Sb (f1 _) fun w1 hb1=>?_);go_ret;exact⟨by simp,Zc HN.out hb1⟩
theorem watch_ok(T R S C i b:Int)(o y:Bool)(z:Int)(h0:svE T R S C i b o=0)(w:World):
 Calls prog 105 #[.agg #[Vi T,Vi R,Vi S,Vi C],.agg #[Vi i,Vi b,.bool o],.agg #[.bool y,Vi z]] w (Rt w (.tuple #[.agg #[Vi (wI S C i b z o y),Vi (wB S i b z o y),.bool (wO S C i b z o y)],.nilIface])):=by
 have hck:=Np T R S C i b o;rw[h0,Z2] at hck;have HX:=Za (RSQ.new3 w T R S C i b o y z);obtain⟨hr,hs⟩:=Wo h0;have ⟨⟨t0,t1⟩,_,⟨k0,k1⟩,c0,c1⟩:=Yf hr;have i0:=(Yv hs).1.1;have i1:=(Yv hs).1.2;have b0:=(Yv hs).2.1.1;have b1:=(Yv hs).2.1.2;have hap:=atPlace_any T R S C i b o y z (by omega) (by omega) (by omega) (by omega);clear hr hs h0;have hfi:fineW S i z o y=(o||atB S i z y):=rfl;generalize atB S i z y=a at*
 cases o
 · cases a
   · by_cases hq:b+1=C
     · obtain⟨e1,e2,e3⟩:=w_last (C:=C) (b:=b) hfi hq;rw[e1,e2,e3];clear hfi e1 e2 e3
       have hq':(b+1==C)=true:=by simpa using hq
       clear hq
       go_enter func105,ntmps105
       go_wp2_with (first
        |(go_at_call 159;refine Sb (hck _) fun w1 hb1=>?_;have HX:=Za (⟨HX.out.1.later hb1,HX.out.2.later hb1⟩:RSQ w w1 (w.heap.size+1+1+1) T R S C i b false∧B2 w1 (w.heap.size+1+1) (.bool y) (Vi z));obtain⟨⟨⟨⟨q0,q1,q2,q3⟩,⟨s0,s1,s2⟩,_⟩,⟨sf,_⟩,⟨p0,p1,p2⟩,pf,_⟩,m0,m1⟩:=HX.out;have g0:=sf 0 (by omega);have g1:=sf 1 (by omega);have g2:=sf 2 (by omega);have f0:=pf 0 (by omega);have f1:=pf 1 (by omega);have f2:=pf 2 (by omega);clear hb1 sf pf)
        |(go_at_call 160;refine Sb (hap _) fun w2 hb2=>?_;have HX:=Za (⟨HX.out.1.later hb2,HX.out.2.later hb2⟩:RSQ w w2 (w.heap.size+1+1+1) T R S C i b false∧B2 w2 (w.heap.size+1+1) (.bool y) (Vi z));obtain⟨⟨⟨⟨q0,q1,q2,q3⟩,⟨s0,s1,s2⟩,_⟩,⟨sf,_⟩,⟨p0,p1,p2⟩,pf,_⟩,m0,m1⟩:=HX.out;have g0:=sf 0 (by omega);have g1:=sf 1 (by omega);have g2:=sf 2 (by omega);have f0:=pf 0 (by omega);have f1:=pf 1 (by omega);have f2:=pf 2 (by omega);clear hb2 sf pf))
       exact bodyPost_ret (v:=.tuple #[.agg #[Vi 0,Vi (b+1),.bool true],.nilIface]) (by simp[results,results105,go_sem,p0,p1,p2]) rfl ⟨rfl,(((((HX.out.1.1.2.2.setCell (by simp) _).setCell (by simp) _).setCell (by simp) _).setCell (by simp;omega) _).setCell (by simp;omega) _).setCell (by simp;omega) _⟩
     · obtain⟨e1,e2,e3⟩:=w_more (C:=C) (b:=b) hfi hq;rw[e1,e2,e3];clear hfi e1 e2 e3
       have hq':(b+1==C)=false:=by simpa using hq
       clear hq
       go_enter func105,ntmps105
       go_wp2_with (first
        |(go_at_call 159;refine Sb (hck _) fun w1 hb1=>?_;have HX:=Za (⟨HX.out.1.later hb1,HX.out.2.later hb1⟩:RSQ w w1 (w.heap.size+1+1+1) T R S C i b false∧B2 w1 (w.heap.size+1+1) (.bool y) (Vi z));obtain⟨⟨⟨⟨q0,q1,q2,q3⟩,⟨s0,s1,s2⟩,_⟩,⟨sf,_⟩,⟨p0,p1,p2⟩,pf,_⟩,m0,m1⟩:=HX.out;have g0:=sf 0 (by omega);have g1:=sf 1 (by omega);have g2:=sf 2 (by omega);have f0:=pf 0 (by omega);have f1:=pf 1 (by omega);have f2:=pf 2 (by omega);clear hb1 sf pf)
        |(go_at_call 160;refine Sb (hap _) fun w2 hb2=>?_;have HX:=Za (⟨HX.out.1.later hb2,HX.out.2.later hb2⟩:RSQ w w2 (w.heap.size+1+1+1) T R S C i b false∧B2 w2 (w.heap.size+1+1) (.bool y) (Vi z));obtain⟨⟨⟨⟨q0,q1,q2,q3⟩,⟨s0,s1,s2⟩,_⟩,⟨sf,_⟩,⟨p0,p1,p2⟩,pf,_⟩,m0,m1⟩:=HX.out;have g0:=sf 0 (by omega);have g1:=sf 1 (by omega);have g2:=sf 2 (by omega);have f0:=pf 0 (by omega);have f1:=pf 1 (by omega);have f2:=pf 2 (by omega);clear hb2 sf pf))
       exact bodyPost_ret (v:=.tuple #[.agg #[Vi i,Vi (b+1),.bool false],.nilIface]) (by simp[results,results105,go_sem,p0,p1,p2]) rfl ⟨rfl,(((HX.out.1.1.2.2.setCell (by simp) _).setCell (by simp;omega) _).setCell (by simp;omega) _).setCell (by simp;omega) _⟩
   · obtain⟨e1,e2,e3⟩:=w_fine (C:=C) (b:=b) hfi;rw[e1,e2,e3];clear hfi e1 e2 e3
     go_enter func105,ntmps105
     go_wp2_with (first
      |(go_at_call 159;refine Sb (hck _) fun w1 hb1=>?_;have HX:=Za (⟨HX.out.1.later hb1,HX.out.2.later hb1⟩:RSQ w w1 (w.heap.size+1+1+1) T R S C i b false∧B2 w1 (w.heap.size+1+1) (.bool y) (Vi z));obtain⟨⟨⟨⟨q0,q1,q2,q3⟩,⟨s0,s1,s2⟩,_⟩,⟨sf,_⟩,⟨p0,p1,p2⟩,pf,_⟩,m0,m1⟩:=HX.out;have g0:=sf 0 (by omega);have g1:=sf 1 (by omega);have g2:=sf 2 (by omega);have f0:=pf 0 (by omega);have f1:=pf 1 (by omega);have f2:=pf 2 (by omega);clear hb1 sf pf)
      |(go_at_call 160;refine Sb (hap _) fun w2 hb2=>?_;have HX:=Za (⟨HX.out.1.later hb2,HX.out.2.later hb2⟩:RSQ w w2 (w.heap.size+1+1+1) T R S C i b false∧B2 w2 (w.heap.size+1+1) (.bool y) (Vi z));obtain⟨⟨⟨⟨q0,q1,q2,q3⟩,⟨s0,s1,s2⟩,_⟩,⟨sf,_⟩,⟨p0,p1,p2⟩,pf,_⟩,m0,m1⟩:=HX.out;have g0:=sf 0 (by omega);have g1:=sf 1 (by omega);have g2:=sf 2 (by omega);have f0:=pf 0 (by omega);have f1:=pf 1 (by omega);have f2:=pf 2 (by omega);clear hb2 sf pf))
     exact bodyPost_ret (v:=.tuple #[.agg #[Vi i,Vi b,.bool false],.nilIface]) (by simp[results,results105,go_sem,p0,p1,p2]) rfl ⟨rfl,((HX.out.1.1.2.2.setCell (by simp;omega) _).setCell (by simp;omega) _).setCell (by simp;omega) _⟩
 · obtain⟨e1,e2,e3⟩:=w_fine (C:=C) (b:=b) hfi;rw[e1,e2,e3];clear hfi e1 e2 e3
   go_enter func105,ntmps105
   go_wp2_with (first
    |(go_at_call 159;refine Sb (hck _) fun w1 hb1=>?_;have HX:=Za (⟨HX.out.1.later hb1,HX.out.2.later hb1⟩:RSQ w w1 (w.heap.size+1+1+1) T R S C i b true∧B2 w1 (w.heap.size+1+1) (.bool y) (Vi z));obtain⟨⟨⟨⟨q0,q1,q2,q3⟩,⟨s0,s1,s2⟩,_⟩,⟨sf,_⟩,⟨p0,p1,p2⟩,pf,_⟩,m0,m1⟩:=HX.out;have g0:=sf 0 (by omega);have g1:=sf 1 (by omega);have g2:=sf 2 (by omega);have f0:=pf 0 (by omega);have f1:=pf 1 (by omega);have f2:=pf 2 (by omega);clear hb1 sf pf))
   exact bodyPost_ret (v:=.tuple #[.agg #[Vi i,Vi b,.bool true],.nilIface]) (by simp[results,results105,go_sem,p0,p1,p2]) rfl ⟨rfl,((HX.out.1.1.2.2.setCell (by simp;omega) _).setCell (by simp;omega) _).setCell (by simp;omega) _⟩
theorem watched_any(T R S C i b:Int)(o y:Bool)(z:Int)(hr:arB T R S C=true)(hs:svB T C i b o=true)(w:World):
 Calls prog 51 #[.agg #[Vi T,Vi R,Vi S,Vi C],.agg #[Vi i,Vi b,.bool o],.agg #[.bool y,Vi z]] w (Rt w (.agg #[Vi (wI S C i b z o y),Vi (wB S i b z o y),.bool (wO S C i b z o y)])):=by
 have ⟨⟨t0,t1⟩,_,⟨k0,k1⟩,c0,c1⟩:=Yf hr;have i0:=(Yv hs).1.1;have i1:=(Yv hs).1.2;have b0:=(Yv hs).2.1.1;have b1:=(Yv hs).2.1.2;have hbw:=Zy z (i-S) (i+S);clear hr hs;have hfi:fineW S i z o y=(o||(y&&betw z (i-S) (i+S))):=rfl;generalize betw z (i-S) (i+S)=x at*
 rcases(show o=true∨(o=false∧y=false)∨(o=false∧y=true∧x=false)∨(o=false∧y=true∧x=true) by cases o<;>cases y<;>cases x<;>simp) with rfl|⟨rfl,rfl⟩|⟨rfl,rfl,rfl⟩|⟨rfl,rfl,rfl⟩
 case inl|inr.inr.inr=>
  obtain⟨e1,e2,e3⟩:=w_fine (C:=C) (b:=b) hfi;rw[e1,e2,e3];clear hfi e1 e2 e3
  go_enter func51,ntmps51
  go_wp2_with (go_at_call 38;refine Sm (hbw _) ?_)
  first
   |exact bodyPost_ret (v:=.agg #[Vi i,Vi b,.bool true]) (by simp[results,results51,go_sem]) rfl ⟨rfl,by repeat (first|exact Zb _ _|refine Zc ?_ (Zb _ _))⟩
   |exact bodyPost_ret (v:=.agg #[Vi i,Vi b,.bool false]) (by simp[results,results51,go_sem]) rfl ⟨rfl,by repeat (first|exact Zb _ _|refine Zc ?_ (Zb _ _))⟩
 all_goals
  by_cases hq:b+1=C
  · obtain⟨e1,e2,e3⟩:=w_last (C:=C) (b:=b) hfi hq;rw[e1,e2,e3];clear hfi e1 e2 e3
    have hq':(b+1==C)=true:=by simpa using hq
    clear hq
    go_enter func51,ntmps51
    go_wp2_with (go_at_call 38;refine Sm (hbw _) ?_);exact bodyPost_ret (v:=.agg #[Vi 0,Vi (b+1),.bool true]) (by simp[results,results51,go_sem]) rfl ⟨rfl,by repeat (first|exact Zb _ _|refine Zc ?_ (Zb _ _))⟩
  · obtain⟨e1,e2,e3⟩:=w_more (C:=C) (b:=b) hfi hq;rw[e1,e2,e3];clear hfi e1 e2 e3
    have hq':(b+1==C)=false:=by simpa using hq
    clear hq
    go_enter func51,ntmps51
    go_wp2_with (go_at_call 38;refine Sm (hbw _) ?_);exact bodyPost_ret (v:=.agg #[Vi i,Vi (b+1),.bool false]) (by simp[results,results51,go_sem]) rfl ⟨rfl,by repeat (first|exact Zb _ _|refine Zc ?_ (Zb _ _))⟩
theorem lo_le_hi(h:svE T R S C i b o=0):loR T R i o≤hiR T R i o:=by
 obtain⟨hr,hs⟩:=Wo h;have a:=Yf hr;have c:=Yv hs
 unfold loR hiR mxA mnA
 cases o
 · simp only[Bool.false_eq_true,if_false];omega
 · simp
abbrev Sv:=Int×Int×Bool
def svD:Sv:=(0,0,false)
def svAt(l:List Sv)(k:Nat):Sv:=l.getD k svD
def tk(T R:Int)(s:Sv)(v:Int):Int:=Ze v (loR T R s.1 s.2.2) (hiR T R s.1 s.2.2)
def totU(T R:Int)(l:List Sv)(v:Int):Nat→Int
 |0=>0
 |k+1=>totU T R l v k+tk T R (svAt l k) v
def tot(T R:Int)(l:List Sv)(v:Int):Int:=totU T R l v l.length
def AllOk(T R S C:Int)(l:List Sv):Prop:=arB T R S C=true∧∀k,k<l.length→svB T C (svAt l k).1 (svAt l k).2.1 (svAt l k).2.2=true
theorem AllOk.le{l:List Sv}(h:AllOk T R S C l)(hk:k<l.length):loR T R (svAt l k).1 (svAt l k).2.2≤hiR T R (svAt l k).1 (svAt l k).2.2:=lo_le_hi (svE_mk h.1 (h.2 k hk))
theorem reach_bd(hr:arB T R S C=true)(hs:svB T C i b o=true):-1000≤loR T R i o∧loR T R i o≤1000∧-1000≤hiR T R i o∧hiR T R i o≤1000:=by
 have a:=Yf hr;have c:=Yv hs
 unfold loR hiR mxA mnA
 cases o
 · simp only[Bool.false_eq_true,if_false];omega
 · simp
theorem Y2(h:lo≤hi):lo≤Ze v lo hi∧Ze v lo hi≤hi:=by
 unfold Ze;split
 · omega
 · split
   · omega
   · split<;>omega
theorem clip_mono(h:v≤u):Ze v lo hi≤Ze u lo hi:=by
 unfold Ze;split<;>(try split)<;>(try split)<;>(try split)<;>(try split)<;>(try split)<;>omega
theorem tk_bd{l:List Sv}(h:AllOk T R S C l)(hk:k<l.length)(v:Int):-1000≤tk T R (svAt l k) v∧tk T R (svAt l k) v≤1000:=by
 have a:=Y2 (v:=v) (h.le hk);have c:=reach_bd h.1 (h.2 k hk)
 unfold tk;omega
theorem tk_mono(T R:Int)(s:Sv)(h:v≤u):tk T R s v≤tk T R s u:=clip_mono h
theorem totU_bd{l:List Sv}(h:AllOk T R S C l)(v:Int):∀k:Nat,k≤l.length→-1000*(k:Int)≤totU T R l v k∧totU T R l v k≤1000*(k:Int)
 |0,_=>by simp[totU]
 |k+1,hk=>by
  have a:=totU_bd h v k (by omega);have c:=tk_bd h (show k<l.length by omega) v;simp only[totU];omega
theorem totU_mono(T R:Int)(l:List Sv)(h:v≤u):∀k:Nat,totU T R l v k≤totU T R l u k
 |0=>by simp[totU]
 |k+1=>by have a:=totU_mono T R l h k;have c:=tk_mono T R (svAt l k) h;simp only[totU];omega
theorem Um(T R:Int)(l:List Sv)(h:v≤u):tot T R l v≤tot T R l u:=totU_mono T R l h _
theorem tot_bd{l:List Sv}(h:AllOk T R S C l)(hl:l.length≤9)(v:Int):-9000≤tot T R l v∧tot T R l v≤9000:=by
 have a:=totU_bd h v l.length (Nat.le_refl _)
 unfold tot;omega
def IsLev(T R:Int)(l:List Sv)(s v:Int):Prop:=-T≤v∧v≤T∧tot T R l v≤s∧(v<T→s<tot T R l (v+1))
theorem IsLev.unique{l:List Sv}{s:Int}(h:IsLev T R l s v)(g:IsLev T R l s u):v=u:=by
 obtain⟨h1,h2,h3,h4⟩:=h;obtain⟨g1,g2,g3,g4⟩:=g
 rcases Int.lt_trichotomy v u with h|h|h
 · have:=h4 (by omega);have:=Um T R l (show v+1≤u by omega);omega
 · exact h
 · have:=g4 (by omega);have:=Um T R l (show u+1≤v by omega);omega
def lfU(T R:Int)(l:List Sv)(v s:Int):Nat→Int
 |0=>s
 |k+1=>if 0<lfU T R l v s k∧tk T R (svAt l k) v<tk T R (svAt l k) (v+1) then lfU T R l v s k-1 else lfU T R l v s k
def dlI(T R:Int)(l:List Sv)(v s:Int)(k:Nat):Int:=if 0<lfU T R l v s k∧tk T R (svAt l k) v<tk T R (svAt l k) (v+1) then tk T R (svAt l k) v+1 else tk T R (svAt l k) v
def dlU(T R:Int)(l:List Sv)(v s:Int):Nat→List Int
 |0=>[]
 |k+1=>dlU T R l v s k++[dlI T R l v s k]
theorem Xc(T R:Int)(l:List Sv)(v s:Int):∀k:Nat,(dlU T R l v s k).length=k
 |0=>rfl
 |k+1=>by simp[dlU,Xc T R l v s k]
theorem lfU_bd(T R:Int)(l:List Sv)(v s:Int):∀k:Nat,s-k≤lfU T R l v s k∧lfU T R l v s k≤s
 |0=>by simp[lfU]
 |k+1=>by have:=lfU_bd T R l v s k;simp only[lfU];split<;>omega
theorem Mi(v:Int)(w:World):
 Calls prog 322 #[.agg #[],Vi v] w (Rt w (Vi 0)):=by
 go_enter func322,ntmps322
 go_wp2;go_ret;exact⟨rfl,Zb _ _⟩
theorem Mj(lo hi v:Int)(w:World):
 Calls prog 323 #[.agg #[Vi lo,Vi hi],Vi v] w (Rt w (Vi (Ze v lo hi))):=by
 go_enter func323,ntmps323
 go_wp2_with (go_at_call 172;refine Sm (Yu _ _ _ _) ?_);go_ret;exact⟨rfl,Zb _ _⟩
theorem Mk(x x':Value)(w:World):Sem.run prog (method 521 343 (.agg #[x,x']) "fulmar/share.takes") w=.ok (323,.agg #[x,x']) w:=by kernel_rfl
theorem lost_method(w:World):Sem.run prog (method 521 342 (.agg #[]) "fulmar/share.takes") w=.ok (322,.agg #[]) w:=by kernel_rfl
def tv(T R:Int)(s:Sv):Value:=if s.2.2 then .iface 342 (.agg #[]) else .iface 343 (.agg #[Vi (loR T R s.1 s.2.2),Vi (hiR T R s.1 s.2.2)])
theorem tk_lost{s:Sv}(h:s.2.2=true):tk T R s v=0:=by
 unfold tk loR hiR Ze;rw[h];simp only[if_true];split
 · rfl
 · split
   · rfl
   · split<;>omega
def WLs(w:World)(a:Option Addr)(T R:Int)(l:List Sv):Prop:=l=[]∨∃b off,a=some (Ad b off)∧∀k,k<l.length→Kc w b (off+k) (tv T R (svAt l k))
theorem WLs.later{l:List Sv}(h:WLs w a T R l)(hb:Bw w w'):WLs w' a T R l:=by
 rcases h with h|⟨b,off,h,hc⟩
 · exact .inl h
 · exact .inr ⟨b,off,h,fun k hk=>cell_later hb (hc k hk)⟩
theorem WLs.at{l:List Sv}(h:WLs w a T R l)(hk:k<l.length):∃b off,a=some (Ad b off)∧Kc w b (off+k) (tv T R (svAt l k)):=by
 rcases h with h|⟨b,off,h,hc⟩
 · subst h;simp at hk
 · exact⟨b,off,h,hc k hk⟩
theorem Nv(T R S C:Int)(l:List Sv)(v:Int)(a:Option Addr)(cap:Nat)(hok:AllOk T R S C l)(hl:l.length≤9)(w:World)(hw:WLs w a T R l):
 Calls prog 221 #[.slice a l.length cap,Vi v] w (Rt w (Vi (tot T R l v))):=by
 have HW:=Za hw;have Ha:=Za hok;have hme:=Mk;have hml:=lost_method;clear hw hok
 go_enter func221,ntmps221
 go_wp2
 go_loopw [5,10] (fun s i wr=>∃k:Nat,k≤l.length∧i=Vi k∧s=Vi (totU T R l v k)∧Bw w wr) (fun _ i _=>l.length-(intOf i).toNat)
 case atStart=>exact⟨0,Nat.zero_le _,rfl,rfl,Below.refl _ _⟩
 case round=>
  obtain⟨k,hk,rfl,rfl,hb⟩:=hrel;have HB:=Za hb;have hbd:=totU_bd Ha.out v k hk;clear hb
  by_cases hlt:k<l.length
  · obtain⟨bb,off,rfl,hc⟩:=(HW.out.later HB.out).at hlt;have htb:=tk_bd Ha.out hlt v;have HS:=Za (show totU T R l v (k+1)=totU T R l v k+tk T R (svAt l k) v from rfl);have htk:tk T R (svAt l k) v=Ze v (loR T R (svAt l k).1 (svAt l k).2.2) (hiR T R (svAt l k).1 (svAt l k).2.2):=rfl
    have j0:(0:Int)≤(k:Int):=by omega
    have j1:(k:Int)<(l.length:Int):=by omega
    generalize totU T R l v k=s at*
    cases ho:(svAt l k).2.2
    · have hf:=Mj (loR T R (svAt l k).1 (svAt l k).2.2) (hiR T R (svAt l k).1 (svAt l k).2.2) v;rw[←htk] at hf
      unfold tv at hc
      rw[if_neg (by simp[ho])] at hc;clear htk ho;generalize tk T R (svAt l k) v=t at *;generalize loR T R (svAt l k).1 (svAt l k).2.2=lo at *;generalize hiR T R (svAt l k).1 (svAt l k).2.2=hi at*
      go_wp2_with (go_at_call 323;refine Sb (hf _) fun w1 hb1=>?_);go_roundw
      case rel=>exact⟨k+1,by omega,by go_num,by rw[HS.out],Zc HB.out hb1⟩
      case measure=>simp[intOf];omega
    · have hf:=Mi v;rw[←tk_lost (T:=T) (R:=R) (v:=v) ho] at hf
      unfold tv at hc
      rw[if_pos ho] at hc;clear htk ho;generalize tk T R (svAt l k) v=t at*
      go_wp2_with (go_at_call 322;refine Sb (hf _) fun w1 hb1=>?_);go_roundw
      case rel=>exact⟨k+1,by omega,by go_num,by rw[HS.out],Zc HB.out hb1⟩
      case measure=>simp[intOf];omega
  · have e:k=l.length:=by omega
    subst e;go_wp2;go_ret;exact⟨rfl,HB.out⟩
theorem taken_any(T R S C i b:Int)(o:Bool)(v:Int)(hr:arB T R S C=true)(hs:svB T C i b o=true)(w:World):
 Calls prog 147 #[.agg #[Vi T,Vi R,Vi S,Vi C],.agg #[Vi i,Vi b,.bool o],Vi v] w (Rt w (Vi (tk T R (i,b,o) v))):=by
 have hrd:=reached_any T R S C i b o hr hs;have hcl:=Yr v (loR T R i o) (hiR T R i o) (lo_le_hi (svE_mk hr hs));have HN:=Za (RS.new w T R S C i b o).2.2
 unfold tk
 clear hr hs;generalize Ze v (loR T R i o) (hiR T R i o)=t at *;generalize loR T R i o=lo at *;generalize hiR T R i o=hi at*
 go_enter func147,ntmps147
 go_wp2_with (first
  |(go_at_call 200;refine Sb (hrd _) fun w1 hb1=>?_)
  |(go_at_call 94;refine Sm (hcl _) ?_))
 go_ret;exact⟨rfl,Zc (Zc HN.out hb1) (Zb _ _)⟩
def ILs(w:World)(a:Option Addr)(l:List Int):Prop:=l=[]∨∃b off,a=some (Ad b off)∧∀k,k<l.length→Kc w b (off+k) (Vi (l.getD k 0))
theorem ILs.later(h:ILs w a l)(hb:Bw w w'):ILs w' a l:=by
 rcases h with h|⟨b,off,h,hc⟩
 · exact .inl h
 · exact .inr ⟨b,off,h,fun k hk=>cell_later hb (hc k hk)⟩
theorem ILs.at(h:ILs w a l)(hk:k<l.length):∃b off,a=some (Ad b off)∧Kc w b (off+k) (Vi (l.getD k 0)):=by
 rcases h with h|⟨b,off,h,hc⟩
 · subst h;simp at hk
 · exact⟨b,off,h,hc k hk⟩
theorem sv_mk(h1:-T≤i∧i≤T)(h2:0≤b∧b≤C)(h3:o=true→i=0)(h4:o=false→b<C):svB T C i b o=true:=by
 simp only[svB,Bool.and_eq_true,Bool.or_eq_true,Bool.not_eq_true',beq_iff_eq,decide_eq_true_eq];refine⟨⟨⟨Y7 h1.1 h1.2,Y7 h2.1 h2.2⟩,?_⟩,?_⟩
 · cases o
   · exact .inl rfl
   · exact .inr (h3 rfl)
 · cases o
   · exact .inr (h4 rfl)
   · exact .inl rfl
def VLs(w:World)(a:Option Addr)(l:List Sv):Prop:=l=[]∨∃b off,a=some (Ad b off)∧∀k,k<l.length→Kc w b (off+k*3) (Vi (svAt l k).1)∧Kc w b (off+k*3+1) (Vi (svAt l k).2.1)∧Kc w b (off+k*3+2) (.bool (svAt l k).2.2)
theorem VLs.later{l:List Sv}(h:VLs w a l)(hb:Bw w w'):VLs w' a l:=by
 rcases h with h|⟨b,off,h,hc⟩
 · exact .inl h
 · exact .inr ⟨b,off,h,fun k hk=>⟨cell_later hb (hc k hk).1,cell_later hb (hc k hk).2.1,cell_later hb (hc k hk).2.2⟩⟩
theorem VLs.at{l:List Sv}(h:VLs w a l)(hk:k<l.length):∃b off,a=some (Ad b off)∧Kc w b (off+k*3) (Vi (svAt l k).1)∧Kc w b (off+k*3+1) (Vi (svAt l k).2.1)∧Kc w b (off+k*3+2) (.bool (svAt l k).2.2):=by
 rcases h with h|⟨b,off,h,hc⟩
 · subst h;simp at hk
 · exact⟨b,off,h,hc k hk⟩
theorem keepQ{u u':World}{bl ol:Nat}(hb:Bw u u')(h:(Kc u w.heap.size 0 (Vi T)∧Kc u w.heap.size 1 (Vi R)∧Kc u w.heap.size 2 (Vi S)∧Kc u w.heap.size 3 (Vi C))∧(Kc u bl (ol+k*3) (Vi i)∧Kc u bl (ol+k*3+1) (Vi b)∧Kc u bl (ol+k*3+2) (.bool o))∧Bw w u):(Kc u' w.heap.size 0 (Vi T)∧Kc u' w.heap.size 1 (Vi R)∧Kc u' w.heap.size 2 (Vi S)∧Kc u' w.heap.size 3 (Vi C))∧(Kc u' bl (ol+k*3) (Vi i)∧Kc u' bl (ol+k*3+1) (Vi b)∧Kc u' bl (ol+k*3+2) (.bool o))∧Bw w u':=
 ⟨B4.later h.1 hb,⟨cell_later hb h.2.1.1,cell_later hb h.2.1.2.1,cell_later hb h.2.1.2.2⟩,Zc h.2.2 hb⟩
def RB(w0 w:World)(T R S C:Int):Prop:=B4 w w0.heap.size (Vi T) (Vi R) (Vi S) (Vi C)∧Bw w0 w
theorem RB.later(h:RB w0 w T R S C)(hb:Bw w w'):RB w0 w' T R S C:=⟨h.1.later hb,Zc h.2 hb⟩
theorem RB.new(w:World)(T R S C:Int):RB w (w.alloc (.cells #[Vi T,Vi R,Vi S,Vi C] 113)) T R S C:=⟨B4.new _ _ _ _ _ _,Zb _ _⟩
theorem total_any(T R S C:Int)(l:List Sv)(v:Int)(a:Option Addr)(cap:Nat)(hok:AllOk T R S C l)(hl:l.length≤9)(w:World)(hv:VLs w a l):
 Calls prog 146 #[.agg #[Vi T,Vi R,Vi S,Vi C],.slice a l.length cap,Vi v] w (Rt w (Vi (tot T R l v))):=by
 have HV:=Za hv;have Ha:=Za hok;have HR:=Za (RB.new w T R S C);clear hv hok
 go_enter func146,ntmps146
 go_wp2
 go_loopw [7,8] (fun s i wr=>∃k:Nat,k≤l.length∧i=Vi k∧s=Vi (totU T R l v k)∧RB w wr T R S C) (fun _ i _=>l.length-(intOf i).toNat)
 case atStart=>exact⟨0,Nat.zero_le _,rfl,rfl,HR.out⟩
 case round=>
  clear HR;obtain⟨k,hk,rfl,rfl,hR⟩:=hrel;have hbd:=totU_bd Ha.out v k hk
  by_cases hlt:k<l.length
  · obtain⟨bl,ol,rfl,d0,d1,d2⟩:=(HV.out.later hR.2).at hlt;have htn:=taken_any T R S C (svAt l k).1 (svAt l k).2.1 (svAt l k).2.2 v Ha.out.1 (Ha.out.2 k hlt);have htb:=tk_bd Ha.out hlt v;have HS:=Za (show totU T R l v (k+1)=totU T R l v k+tk T R ((svAt l k).1,(svAt l k).2.1,(svAt l k).2.2) v from rfl);rw[show tk T R (svAt l k) v=tk T R ((svAt l k).1,(svAt l k).2.1,(svAt l k).2.2) v from rfl] at htb
    have j0:(0:Int)≤(k:Int):=by omega
    have j1:(k:Int)<(l.length:Int):=by omega
    generalize totU T R l v k=s at *;generalize tk T R ((svAt l k).1,(svAt l k).2.1,(svAt l k).2.2) v=t at *;generalize (svAt l k).1=i at *;generalize (svAt l k).2.1=b at *;generalize (svAt l k).2.2=o at *;have S0:(Kc wr w.heap.size 0 (Vi T)∧Kc wr w.heap.size 1 (Vi R)∧Kc wr w.heap.size 2 (Vi S)∧Kc wr w.heap.size 3 (Vi C))∧(Kc wr bl (ol+k*3) (Vi i)∧Kc wr bl (ol+k*3+1) (Vi b)∧Kc wr bl (ol+k*3+2) (.bool o))∧Bw w wr:=⟨hR.1,⟨d0,d1,d2⟩,hR.2⟩;have Z:=Za S0;clear hR d0 d1 d2
    go_upto_region 5 with fail
    go_region_held3 (fun u=>(Kc u w.heap.size 0 (Vi T)∧Kc u w.heap.size 1 (Vi R)∧Kc u w.heap.size 2 (Vi S)∧Kc u w.heap.size 3 (Vi C))∧(Kc u bl (ol+k*3) (Vi i)∧Kc u bl (ol+k*3+1) (Vi b)∧Kc u bl (ol+k*3+2) (.bool o))∧Bw w u)
     (first
      |(with_reducible assumption)
      |(with_reducible refine keepQ (Zb _ _) ?_;with_reducible assumption)
      |(with_reducible apply keepQ;with_reducible assumption;with_reducible assumption)
      |(refine keepQ ?_ Z.out;exact(Below.refl _ _).drew))
     (first
      |(go_at_call 147;refine Sb (htn _) fun w' hb=>?_))
    all_goals
     rename_i hH
     have HH:=Za hH;clear hH;go_wp2_with fail;go_roundw
     (case rel=>exact⟨k+1,by omega,by go_num,by rw[HS.out,Xo (by omega) (by omega)],HH.out.1,HH.out.2.2⟩)
     (case measure=>simp[intOf];omega)
  · have e:k=l.length:=by omega
    subst e;go_wp2;go_ret;exact⟨rfl,hR.2⟩
def smU(l:List Sv):Nat→Int
 |0=>0
 |k+1=>smU l k+(svAt l k).1
theorem smU_bd{l:List Sv}(h:∀k,k<l.length→-2147483647≤(svAt l k).1∧(svAt l k).1≤2147483647):∀k:Nat,k≤l.length→-2147483647*(k:Int)≤smU l k∧smU l k≤2147483647*(k:Int)
 |0,_=>by simp[smU]
 |k+1,hk=>by
  have a:=smU_bd h k (by omega);have c:=h k (by omega);simp only[smU];omega
theorem sumOf_any(l:List Sv)(a:Option Addr)(cap:Nat)(hl:l.length≤9)(hi:∀k,k<l.length→-2147483647≤(svAt l k).1∧(svAt l k).1≤2147483647)(w:World)(hv:VLs w a l):
 Calls prog 95 #[.slice a l.length cap] w (Re w (Vi (smU l l.length))):=by
 have HV:=Za hv;have HI:=Za hi;clear hv hi
 go_enter func95,ntmps95
 go_wp2
 go_loop [3,4] (fun s i=>∃k:Nat,k≤l.length∧i=Vi k∧s=Vi (smU l k)) (fun _ i=>l.length-(intOf i).toNat)
 case atStart=>exact⟨0,Nat.zero_le _,rfl,rfl⟩
 case round=>
  obtain⟨k,hk,rfl,rfl⟩:=hrel;have hbd:=smU_bd HI.out k hk
  by_cases hlt:k<l.length
  · obtain⟨bl,ol,rfl,d0,d1,d2⟩:=HV.out.at hlt;have hb1:=HI.out k hlt;have HS:=Za (show smU l (k+1)=smU l k+(svAt l k).1 from rfl)
    have j0:(0:Int)≤(k:Int):=by omega
    have j1:(k:Int)<(l.length:Int):=by omega
    generalize smU l k=s at *;generalize (svAt l k).1=i at *;go_wp2
    go_round
    case rel=>exact⟨k+1,by omega,by go_num,by rw[HS.out]⟩
    case measure=>simp[intOf];omega
  · have e:k=l.length:=by omega
    subst e;go_wp2;go_ret;exact⟨rfl,rfl⟩
theorem shareSum_any(l:List Sv)(a:Option Addr)(cap:Nat)(hl:l.length≤9)(hi:∀k,k<l.length→-2147483647≤(svAt l k).1∧(svAt l k).1≤2147483647)(w:World)(hv:VLs w a l):
 Calls prog 174 #[.slice a l.length cap] w (Rt w (Vi (smU l l.length))):=by
 have HV:=Za hv;have HI:=Za hi;clear hv hi
 go_enter func174,ntmps174
 go_wp2
 go_loopw [3,8] (fun s i wr=>∃k:Nat,k≤l.length∧i=Vi k∧s=Vi (smU l k)∧Bw w wr) (fun _ i _=>l.length-(intOf i).toNat)
 case atStart=>exact⟨0,Nat.zero_le _,rfl,rfl,Below.refl _ _⟩
 case round=>
  obtain⟨k,hk,rfl,rfl,hb⟩:=hrel;have hbd:=smU_bd HI.out k hk
  by_cases hlt:k<l.length
  · obtain⟨bl,ol,rfl,d0,d1,d2⟩:=(HV.out.later hb).at hlt;have hb1:=HI.out k hlt;have HS:=Za (show smU l (k+1)=smU l k+(svAt l k).1 from rfl);have HB:=Za hb
    have j0:(0:Int)≤(k:Int):=by omega
    have j1:(k:Int)<(l.length:Int):=by omega
    clear hb;generalize smU l k=s at *;generalize (svAt l k).1=i at *;go_wp2;go_roundw
    case rel=>exact⟨k+1,by omega,by go_num,by rw[HS.out],Zc HB.out (Zb _ _)⟩
    case measure=>simp[intOf];omega
  · have e:k=l.length:=by omega
    subst e;go_wp2;go_ret;exact⟨rfl,hb⟩
structure DK (O:Nat) (w w':World):Prop where
 os:w'.os=w.os
 tape:w'.tape=w.tape
 output:w'.output=w.output
 size:w.heap.size≤w'.heap.size
 block:∀k,k<w.heap.size→k≠O→w'.heap[k]?=w.heap[k]?
theorem DK.refl(O:Nat)(w:World):DK O w w:=⟨rfl,rfl,rfl,Nat.le_refl _,fun _ _ _=>rfl⟩
theorem DK.trans{a b c:World}(h:DK O a b)(k:DK O b c):DK O a c:=⟨k.os.trans h.os,k.tape.trans h.tape,k.output.trans h.output,Nat.le_trans h.size k.size,fun i hi ho=>(k.block i (Nat.lt_of_lt_of_le hi h.size) ho).trans (h.block i hi ho)⟩
theorem DK.cell(h:DK O w w'){p:Addr}{v:Value}(ho:p.block≠O)(hv:w.cell? p=some v):w'.cell? p=some v:=
 (World.cell?_of_block (w:=w) (h.block p.block (World.block_lt_of_cell? w p hv) ho)).trans hv
theorem DK.of_below(h:Bw w w'):DK O w w':=⟨h.os,h.tape,h.output,h.size,fun k hs _=>h.block k hs⟩
theorem DK.set{a:World}(h:DK O a w)(v:Value):DK O a (w.setCell (Ad O j) v):=⟨h.os,h.tape,h.output,by simpa using h.size,fun k hk ho=>(Below.heap_setCell w ⟨O,j,none⟩ v k ho).trans (h.block k hk ho)⟩
theorem DK.below(h:Below K w0 w)(d:DK O w w')(hO:K≤O)(hK:K≤w.heap.size):Below K w0 w':=
 ⟨d.os.trans h.os,d.tape.trans h.tape,d.output.trans h.output,Nat.le_trans h.size d.size,fun k hk=>(d.block k (by omega) (by omega)).trans (h.block k hk)⟩
theorem DK.drewN{a:World}(h:DK O a w)(n:Nat):DK O a (w.drewN n):=h.trans (DK.of_below (below_drewN (Below.refl _ _) n))
def Dc(w:World)(O:Nat)(a:Option Addr)(l:List Int)(cap n:Nat):Prop:=
 (Kc w O 0 (.slice a l.length cap)∧Kc w O 1 (Vi (n:Int)))∧w.frozen? (Ad O 1)=false∧ILs w a l∧(∀b off,a=some (Ad b off)→l≠[]→b≠O)
theorem Dc.later(h:Dc w O a l cap n)(hb:Bw w w'):Dc w' O a l cap n:=
 ⟨⟨cell_later hb h.1.1,cell_later hb h.1.2⟩,(hb.frozen (p:=⟨O,1,none⟩) (World.block_lt_of_cell? w ⟨O,1,none⟩ h.1.2)).trans h.2.1,h.2.2.1.later hb,h.2.2.2⟩
theorem ILs.dset{v:Value}(h:ILs w a l)(hne:∀b off,a=some (Ad b off)→l≠[]→b≠O):ILs (w.setCell (Ad O j) v) a l:=by
 rcases h with h|⟨b,off,h,hc⟩
 · exact .inl h
 · by_cases hl:l=[]
   · exact .inl hl
   · exact .inr ⟨b,off,h,fun k hk=>Zi (hc k hk) (Yh (Ne.symm (hne b off h hl)))⟩
theorem Dc.next(h:Dc w O a l cap n):Dc (w.setCell (Ad O 1) (Vi ((n:Int)+1))) O a l cap (n+1):=by
 refine⟨⟨Zi h.1.1 (Zo (by decide)),?_⟩,by simpa[go_sem] using h.2.1,h.2.2.1.dset h.2.2.2,h.2.2.2⟩;rw[show(((n+1:Nat):Int))=(n:Int)+1 by omega];exact Xm h.1.2
theorem Dc.lt(h:Dc w O a l cap n):O<w.heap.size:=World.block_lt_of_cell? w ⟨O,1,none⟩ h.1.2
theorem dpick_any(n d:Int)(d0:0<d)(d1:d≤8000000000000)(w:World):
 Calls prog 24 #[Vi n,Vi d] w fun e w'=>(∃x,e=.returned (Vi x)∧0≤x∧x<d)∧w'=w:=
 (pick_any n d d0 d1 w).mono fun e w' h=>⟨⟨_,h.1,Int.emod_nonneg _ (by omega),Int.emod_lt_of_pos _ d0⟩,h.2⟩
theorem N2(O:Nat)(a:Option Addr)(l:List Int)(cap n:Nat)(m:Int)(m0:0<m)(m1:m≤8000000000000)(hn:n≤1000000)(hl:l.length≤100)(w:World)(hd:Dc w O a l cap n):
 Calls prog 67 #[.pointer (some (Ad O 0)),Vi m] w fun e w'=>(∃x,e=.returned (Vi x)∧0≤x∧x<m)∧Dc w' O a l cap (n+1)∧DK O w w'∧w'.heap.size=w.heap.size:=by
 have HD:=Za hd;have hpk:=fun x=>dpick_any x m m0 m1;obtain⟨⟨c0,c1⟩,cf,hil,_⟩:=hd
 by_cases h0:0<l.length
 · have hlt:n%l.length<l.length:=Nat.mod_lt _ h0;obtain⟨bl,ol,rfl,ci⟩:=hil.at hlt;obtain⟨j,hj⟩:∃j,n%l.length=j:=⟨_,rfl⟩;rw[hj] at hlt ci
   have e1:((n:Int)).tmod (l.length:Int)=(j:Int):=by rw[←hj];rfl
   have e2:((n:Int))%(l.length:Int)=(j:Int):=by rw[←hj];rfl
   obtain⟨q,hqn⟩:∃q,n/l.length=q:=⟨_,rfl⟩
   have hq:((n:Int)).tdiv (l.length:Int)=(q:Int):=by rw[←hqn];rfl
   have hq':((n:Int))/(l.length:Int)=(q:Int):=by rw[←hqn];rfl
   have qb:(q:Int)≤1000000:=by
    have:n/l.length≤n:=Nat.div_le_self _ _
    omega
   generalize l.getD j 0=x at *;have tb:=tmod_bd x 1000000007 1000000007 (by omega) (by omega) (by omega)
   have hlb:(0:Int)<(l.length:Int):=by omega
   have j0:(0:Int)≤(j:Int):=by omega
   have j1:(j:Int)<(l.length:Int):=by omega
   have z1:((l.length:Int)==0)=false:=beq_eq_false_iff_ne.2 (by omega)
   have n0:(n:Int)≤1000000:=by omega
   have v1:=Wr (7919*(q:Int));have v2:=Wr (x.tmod 1000000007+7919*(q:Int));clear hil hj hqn
   go_enter func67,ntmps67
   go_upto_region 3 with fail;go_quiet (fail)
   go_wp2_with (go_at_call 24;refine(hpk _ _).mono ?_;rintro e w' ⟨⟨y,rfl,y0,y1⟩,hq⟩;have hq:=hq.symm;subst hq);go_ret;exact⟨⟨_,rfl,y0,y1⟩,(HD.out.later (below_drewN (Below.refl _ _) _)).next,((DK.refl _ _).drewN _).set _,by simp[go_sem]⟩
 · have e:l.length=0:=by omega
   have hz:(l.length:Int)=0:=by omega
   have n0:(n:Int)≤1000000:=by omega
   have hz':¬(0:Int)<(l.length:Int):=by omega
   clear hil e hz
   go_enter func67,ntmps67
   go_wp2_with (go_at_call 24;refine(hpk _ _).mono ?_;rintro e w' ⟨⟨x,rfl,x0,x1⟩,hq⟩;have hq:=hq.symm;subst hq);go_ret;exact⟨⟨_,rfl,x0,x1⟩,HD.out.next,(DK.refl _ _).set _,by simp[go_sem]⟩
theorem Nc(O B:Nat)(a:Option Addr)(l:List Int)(cap n c2:Nat)(vs:List Int)(lo hi:Int)(hn:n≤1000000)(hl:l.length≤100)(hv:0<vs.length)(hv':vs.length≤100)(hb:∀k,k<vs.length→lo≤vs.getD k 0∧vs.getD k 0≤hi)(hBO:B≠O)(w:World)(hd:Dc w O a l cap n)(hc:∀k,k<vs.length→Kc w B k (Vi (vs.getD k 0))):
 Calls prog 70 #[.pointer (some (Ad O 0)),.slice (some (Ad B 0)) vs.length c2] w fun e w'=>(∃x,e=.returned (Vi x)∧lo≤x∧x≤hi)∧Dc w' O a l cap (n+1)∧DK O w w'∧w'.heap.size=w.heap.size:=by
 have hN:=N2 O a l cap n (vs.length:Int) (by omega) (by omega) hn hl w hd;have HC:=Za hc;have HB:=Za hb;clear hc hb hd
 go_enter func70,ntmps70
 go_wp2_with (go_at_call 67;refine hN.mono ?_;rintro e w1 ⟨⟨x,rfl,x0,x1⟩,hD1,hK1,hs1⟩;obtain⟨k,hk⟩:∃k:Nat,x=(k:Int):=⟨x.toNat,by omega⟩;subst hk;have ck:=hK1.cell (p:=⟨B,k,none⟩) hBO (HC.out k (by omega));have HD:=Za hD1;have HK:=Za hK1;have HS:=Za hs1;clear hD1 hK1 hs1);go_ret;have hbk:=HB.out k (by omega);exact⟨⟨_,rfl,hbk.1,hbk.2⟩,HD.out,HK.out,HS.out⟩
theorem dN(m:Int)(hl:l.length≤100)(hd:Dc w O a l cap n)(m0:0<m:=by omega)(m1:m≤8000000000000:=by omega)(hn:n≤1000000:=by omega):Calls prog 67 #[.pointer (some (Ad O 0)),Vi m] w fun e w'=>(∃x,e=.returned (Vi x)∧0≤x∧x<m)∧Dc w' O a l cap (n+1)∧DK O w w'∧w'.heap.size=w.heap.size:=N2 O a l cap n m m0 m1 hn hl w hd
theorem Zhz(a0 a1 a2 a3 a4 a5 a6 a7 a8 a9 a10 a11 a14:Int)(ga gi:Value)(h3:0≤a3∧a3≤1000)(h7:0≤a7∧a7≤1000)(h4:2≤a4∧a4≤4)(h5:1≤a5∧a5≤1000)(h6:1≤a6∧a6≤1000)(w:World):
 Calls prog 40 #[.agg #[Vi a0,Vi a1,Vi a2,Vi a3,Vi a4,Vi a5,Vi a6,Vi a7,Vi a8,Vi a9,Vi a10,Vi a11,ga,gi,Vi a14]] w
  (Rt w (.agg #[Vi a0,Vi a1,Vi a2,Vi (a3+a7),Vi ((a4-1)*a5),Vi ((a4-1)*a6)])):=by
 obtain⟨x3,y3⟩:=h3;obtain⟨x7,y7⟩:=h7;obtain⟨x4,y4⟩:=h4
 have b5:0≤(a4-1)*a5∧(a4-1)*a5≤3000:=by
  rcases(show a4=2∨a4=3∨a4=4 by omega) with rfl|rfl|rfl<;>omega
 have b6:0≤(a4-1)*a6∧(a4-1)*a6≤3000:=by
  rcases(show a4=2∨a4=3∨a4=4 by omega) with rfl|rfl|rfl<;>omega
 have v5:=Wr ((a4-1)*a5);have v6:=Wr ((a4-1)*a6);obtain⟨b50,b51⟩:=b5;obtain⟨b60,b61⟩:=b6
 go_enter func40,ntmps40
 go_wp2;exact bodyPost_ret (v:=.agg #[Vi a0,Vi a1,Vi a2,Vi (a3+a7),Vi ((a4-1)*a5),Vi ((a4-1)*a6)]) (by simp[results,results40,go_sem]) rfl ⟨rfl,Zc (Zb _ _) (Zb _ _)⟩
def AxV(w:World)(B:Nat)(v:Nat→Value):Prop:=∀j,j<15→Kc w B j (v j)∧w.frozen? (Ad B j)=false
def updV(v:Nat→Value)(k:Nat)(x:Value)(j:Nat):Value:=if j=k then x else v j
theorem updV_same(v:Nat→Value)(k:Nat)(x:Value):updV v k x k=x:=if_pos rfl
theorem updV_other{v:Nat→Value}{y:Value}(h:v j=y)(hj:j≠k):updV v k x j=y:=(if_neg hj).trans h
theorem AxV.lt{v:Nat→Value}(h:AxV w B v):B<w.heap.size:=World.block_lt_of_cell? w ⟨B,0,none⟩ (h 0 (by omega)).1
theorem AxV.later{v:Nat→Value}(h:AxV w B v)(hb:Bw w w'):AxV w' B v:=fun j hj=>⟨cell_later hb (h j hj).1,(hb.frozen (p:=⟨B,j,none⟩) h.lt).trans (h j hj).2⟩
theorem AxV.dk{v:Nat→Value}(h:AxV w B v)(hk:DK O w w')(hB:B≠O):AxV w' B v:=fun j hj=>
 ⟨hk.cell (p:=⟨B,j,none⟩) hB (h j hj).1,(World.frozen?_of_block (w:=w) (a:=⟨B,j,none⟩) (hk.block B h.lt hB)).trans (h j hj).2⟩
theorem AxV.put{v:Nat→Value}(h:AxV w B v)(k:Nat)(x:Value):AxV (w.setCell (Ad B k) x) B (updV v k x):=fun j hj=>by
 refine⟨?_,by simpa[go_sem] using(h j hj).2⟩
 by_cases e:j=k
 · subst e;rw[updV_same];exact Xm (h j hj).1
 · rw[updV_other rfl e];exact Zi (h j hj).1 (Zo (Ne.symm e))
theorem AxV.set{C:Nat}{v:Nat→Value}(h:AxV w B v)(hC:C≠B):AxV (w.setCell (Ad C q) x) B v:=fun j hj=>
 ⟨Zi (h j hj).1 (Yh hC),by simpa[go_sem] using(h j hj).2⟩
theorem Dc.set{C:Nat}(h:Dc w O a l cap n)(hC:C≠O)(hl:∀b off,a=some (Ad b off)→l≠[]→b≠C):Dc (w.setCell (Ad C q) x) O a l cap n:=
 ⟨⟨Zi h.1.1 (Yh hC),Zi h.1.2 (Yh hC)⟩,by simpa[go_sem] using h.2.1,h.2.2.1.dset hl,h.2.2.2⟩
theorem DK.sets{C:Nat}(h:DK O w0 w)(hK:w0.heap.size=K)(hC:K≤C):DK O w0 (w.setCell (Ad C q) x):=
 ⟨h.os,h.tape,h.output,by simpa using h.size,fun k hk ho=>(Below.heap_setCell w ⟨C,q,none⟩ x k (by simp;omega)).trans (h.block k hk ho)⟩
def zV(j:Nat):Value:=if j=12 then .slice none 0 0 else if j=13 then .slice none 0 0 else Vi 0
def RawAt(a:Option Addr)(l:List Int)(K:Nat):Prop:=∀b off,a=some (Ad b off)→l≠[]→b<K
def Gk(w0 w:World)(Z B:Nat)(G:List (Addr×Value)):Prop:=∀x∈G,w.cell? x.1=some x.2∧w0.heap.size≤x.1.block∧x.1.block≠Z∧x.1.block≠B
def AXS(w0 w:World)(O Z B:Nat)(a:Option Addr)(l:List Int)(cap n:Nat)(v:Nat→Value)(G:List (Addr×Value)):Prop:=
 Dc w O a l cap n∧AxV w B v∧AxV w Z zV∧DK O w0 w∧(O<w0.heap.size∧w0.heap.size≤Z∧Z<B∧RawAt a l w0.heap.size)∧Gk w0 w Z B G
theorem AXS.later{a l cap n v G}(h:AXS w0 w O Z B a l cap n v G)(hb:Bw w w'):AXS w0 w' O Z B a l cap n v G:=
 ⟨h.1.later hb,h.2.1.later hb,h.2.2.1.later hb,h.2.2.2.1.trans (DK.of_below hb),h.2.2.2.2.1,fun x hx=>⟨cell_later hb (h.2.2.2.2.2 x hx).1,(h.2.2.2.2.2 x hx).2⟩⟩
theorem AXS.dk{a l cap n m v G}(h:AXS w0 w O Z B a l cap n v G)(hD:Dc w' O a l cap m)(hk:DK O w w'):AXS w0 w' O Z B a l cap m v G:=
 ⟨hD,h.2.1.dk hk (by have:=h.2.2.2.2.1;omega),h.2.2.1.dk hk (by have:=h.2.2.2.2.1;omega),h.2.2.2.1.trans hk,h.2.2.2.2.1,fun x hx=>⟨hk.cell (by have:=h.2.2.2.2.1;have:=(h.2.2.2.2.2 x hx).2.1;omega) (h.2.2.2.2.2 x hx).1,(h.2.2.2.2.2 x hx).2⟩⟩
theorem gset{C:Nat}{x:Addr}{y c:Value}(h:w.cell? x=some c)(hb:x.block≠C):(w.setCell (Ad C q) y).cell? x=some c:=
 (World.cell?_setCell_other _ _ _ _ (fun e=>hb (congrArg Addr.block e).symm)).trans h
theorem AXS.put{a l cap n v G}(h:AXS w0 w O Z B a l cap n v G)(k:Nat)(x:Value):AXS w0 (w.setCell (Ad B k) x) O Z B a l cap n (updV v k x) G:=by
 obtain⟨h1,h2,h3,h4,⟨h5,h6,h7,h8⟩,h9⟩:=h;exact⟨h1.set (by omega) (fun b off e hl=>by have:=h8 b off e hl;omega),h2.put k x,h3.set (by omega),h4.sets rfl (by omega),⟨h5,h6,h7,h8⟩,fun y hy=>⟨gset (h9 y hy).1 (h9 y hy).2.2.2,(h9 y hy).2⟩⟩
theorem AXS.grow{a l cap n v G}(h:AXS w0 w O Z B a l cap n v G)(x y:Int)(t:TypeId):AXS w0 (w.alloc (.cells #[Vi x,Vi y] t)) O Z B a l cap n v ((⟨w.heap.size,0,none⟩,Vi x)::(⟨w.heap.size,1,none⟩,Vi y)::G):=by
 have k:=h.later (Zb w (.cells #[Vi x,Vi y] t));have hZ:=h.2.2.1.lt;have hB:=h.2.1.lt;have hs:=h.2.2.2.1.size;refine⟨k.1,k.2.1,k.2.2.1,k.2.2.2.1,k.2.2.2.2.1,fun q hq=>?_⟩
 rcases List.mem_cons.1 hq with rfl|hq
 · exact⟨by simp[go_sem],hs,by simp;omega,by simp;omega⟩
 · rcases List.mem_cons.1 hq with rfl|hq
   · exact⟨by simp[go_sem],hs,by simp;omega,by simp;omega⟩
   · exact k.2.2.2.2.2 q hq
theorem ax_new(w:World)(s t:Int)(ty:TypeId):AxV (w.alloc (.cells #[Vi 0,Vi 0,Vi 0,Vi 0,Vi s,Vi t,Vi 0,Vi 0,Vi 0,Vi 0,Vi 0,Vi 0,.slice none 0 0,.slice none 0 0,Vi 0] ty)) w.heap.size (updV (updV zV 4 (Vi s)) 5 (Vi t)):=by
 intro j hj;refine⟨?_,by simp[go_sem]⟩
 rcases(show j=0∨j=1∨j=2∨j=3∨j=4∨j=5∨j=6∨j=7∨j=8∨j=9∨j=10∨j=11∨j=12∨j=13∨j=14 by omega) with rfl|rfl|rfl|rfl|rfl|rfl|rfl|rfl|rfl|rfl|rfl|rfl|rfl|rfl|rfl<;>simp[go_sem,updV,zV]
theorem ax_zero(w:World)(ty:TypeId):AxV (w.alloc (.cells Qbf ty)) w.heap.size zV:=by
 intro j hj;refine⟨?_,by simp[go_sem]⟩
 rcases(show j=0∨j=1∨j=2∨j=3∨j=4∨j=5∨j=6∨j=7∨j=8∨j=9∨j=10∨j=11∨j=12∨j=13∨j=14 by omega) with rfl|rfl|rfl|rfl|rfl|rfl|rfl|rfl|rfl|rfl|rfl|rfl|rfl|rfl|rfl<;>simp[go_sem,zV]
structure AxOK (a0 a1 a2 a3 a4 a5 a6 a7 a10:Int):Prop where
 lo:-140000000≤a0
 lh:a0≤a1
 hi:a1≤100000
 n0:0≤a2
 n1:a2≤1000
 p0:0≤a3
 p1:a3≤1000
 s0:2≤a4
 s1:a4≤4
 t0:1≤a5
 t1:a5≤1000
 r0:1≤a6
 r1:a6≤a5
 k0:0≤a7
 k1:a7≤a5
 w0:1≤a10
 w1:a10≤10
structure AxK (a0 a1 a2 a3 a4 a5 a6 a7 a8 a9 a10 a11 a14:Int):Prop where
 lo:-100000≤a0
 lz:a0≤0
 hz:0≤a1
 hi:a1≤100000
 n0:0≤a2
 n1:a2≤1000
 p0:0≤a3
 p1:a3≤1000
 s0:2≤a4
 s1:a4≤4
 t0:1≤a5
 t1:a5≤1000
 r0:1≤a6
 r1:a6≤a5
 k0:0≤a7
 k1:a7≤a5
 l0:2*a2≤a8
 l1:a8≤2040
 c0:1≤a9
 c1:a9≤10
 w0:1≤a10
 w1:a10≤10
 u0:0≤a11
 u1:a11≤1000
 b0:0≤a14
 b1:a14≤65536
 pr:a3+a7≤(a4-1)*a6
 room:2*(a2+bk ((a4-1)*a6) ((a4-1)*a5+(a3+a7)))≤a1-a0
theorem AxK.ok{a0 a1 a2 a3 a4 a5 a6 a7 a8 a9 a10 a11 a14:Int}(h:AxK a0 a1 a2 a3 a4 a5 a6 a7 a8 a9 a10 a11 a14):AxOK a0 a1 a2 a3 a4 a5 a6 a7 a10:=by
 have:=h.lo;have:=h.lz;have:=h.hz;have:=h.hi;exact⟨by omega,by omega,by omega,h.n0,h.n1,h.p0,h.p1,h.s0,h.s1,h.t0,h.t1,h.r0,h.r1,h.k0,h.k1,h.w0,h.w1⟩
def GL(w:World)(G1 G2:Nat)(x y z:Int):Prop:=(Kc w G1 0 (Vi 0)∧Kc w G1 1 (Vi x)∧Kc w G2 0 (Vi y)∧Kc w G2 1 (Vi z))∧(100≤x∧x≤999)∧(0≤y∧y≤65536)∧0≤z∧z≤299
theorem bk_all{P:Int}(hR:0<R)(p0:0≤P)(p1:P≤R):bk R (R+P)≤R+2*P:=by
 rw[bk_pos hR (by omega),show R+P-R=P by omega]
 by_cases h:0<P
 · rw[bk_pos hR h,W7 (by omega)];omega
 · rw[W7 (by omega)];omega
def Ls(v:Nat→Value)(L:List Value):Prop:=∀j,j<15→L[j]?=some (v j)
theorem Ls.at{v:Nat→Value}(h:Ls v L)(e:L[j]?=some x)(hj:j<15:=by decide):v j=x:=Option.some.inj ((h j hj).symm.trans e)
theorem Ls.put{v:Nat→Value}(h:Ls v L)(k:Nat)(x:Value):Ls (updV v k x) (L.set k x):=fun j hj=>by
 have hl:j<L.length:=(List.getElem?_eq_some_iff.1 (h j hj)).1
 by_cases e:j=k
 · subst e;rw[updV_same,List.getElem?_set_self hl]
 · rw[updV_other rfl e,List.getElem?_set_ne (Ne.symm e)];exact h j hj
theorem ls_zero:Ls zV Qbn:=fun j hj=>by
 rcases(show j=0∨j=1∨j=2∨j=3∨j=4∨j=5∨j=6∨j=7∨j=8∨j=9∨j=10∨j=11∨j=12∨j=13∨j=14 by omega) with rfl|rfl|rfl|rfl|rfl|rfl|rfl|rfl|rfl|rfl|rfl|rfl|rfl|rfl|rfl<;>rfl
theorem AXS.ld{a l cap n v G}(h:AXS w0 w O Z B a l cap n v G)(hL:Ls v L)(e:L[j]?=some x)(hj:j<15:=by decide):w.cell? (Ad B j)=some x:=by rw[(h.2.1 j hj).1,hL.at e hj]
theorem AXS.all{a l cap n v G}{x0 x1 x2 x3 x4 x5 x6 x7 x8 x9 x10 x11 x12 x13 x14:Value}(h:AXS w0 w O Z B a l cap n v G)(hL:Ls v [x0,x1,x2,x3,x4,x5,x6,x7,x8,x9,x10,x11,x12,x13,x14]):Kc w B 0 x0∧Kc w B 1 x1∧Kc w B 2 x2∧Kc w B 3 x3∧Kc w B 4 x4∧Kc w B 5 x5∧Kc w B 6 x6∧Kc w B 7 x7∧Kc w B 8 x8∧Kc w B 9 x9∧Kc w B 10 x10∧Kc w B 11 x11∧Kc w B 12 x12∧Kc w B 13 x13∧Kc w B 14 x14:=
 ⟨h.ld hL rfl,h.ld hL rfl,h.ld hL rfl,h.ld hL rfl,h.ld hL rfl,h.ld hL rfl,h.ld hL rfl,h.ld hL rfl,h.ld hL rfl,h.ld hL rfl,h.ld hL rfl,h.ld hL rfl,h.ld hL rfl,h.ld hL rfl,h.ld hL rfl⟩
theorem AXS.zer{a l cap n v G}(h:AXS w0 w O Z B a l cap n v G):(Kc w Z 0 (zV 0)∧w.frozen? (Ad Z 0)=false)∧(Kc w Z 1 (zV 1)∧w.frozen? (Ad Z 1)=false)∧(Kc w Z 2 (zV 2)∧w.frozen? (Ad Z 2)=false)∧(Kc w Z 3 (zV 3)∧w.frozen? (Ad Z 3)=false)∧(Kc w Z 4 (zV 4)∧w.frozen? (Ad Z 4)=false)∧(Kc w Z 5 (zV 5)∧w.frozen? (Ad Z 5)=false)∧(Kc w Z 6 (zV 6)∧w.frozen? (Ad Z 6)=false)∧(Kc w Z 7 (zV 7)∧w.frozen? (Ad Z 7)=false)∧(Kc w Z 8 (zV 8)∧w.frozen? (Ad Z 8)=false)∧(Kc w Z 9 (zV 9)∧w.frozen? (Ad Z 9)=false)∧(Kc w Z 10 (zV 10)∧w.frozen? (Ad Z 10)=false)∧(Kc w Z 11 (zV 11)∧w.frozen? (Ad Z 11)=false)∧(Kc w Z 12 (zV 12)∧w.frozen? (Ad Z 12)=false)∧(Kc w Z 13 (zV 13)∧w.frozen? (Ad Z 13)=false)∧(Kc w Z 14 (zV 14)∧w.frozen? (Ad Z 14)=false):=
 ⟨h.2.2.1 0 (by decide),h.2.2.1 1 (by decide),h.2.2.1 2 (by decide),h.2.2.1 3 (by decide),h.2.2.1 4 (by decide),h.2.2.1 5 (by decide),h.2.2.1 6 (by decide),h.2.2.1 7 (by decide),h.2.2.1 8 (by decide),h.2.2.1 9 (by decide),h.2.2.1 10 (by decide),h.2.2.1 11 (by decide),h.2.2.1 12 (by decide),h.2.2.1 13 (by decide),h.2.2.1 14 (by decide)⟩
end Go.Proofs.YtnfdfiholcelaaaGreatDoor
