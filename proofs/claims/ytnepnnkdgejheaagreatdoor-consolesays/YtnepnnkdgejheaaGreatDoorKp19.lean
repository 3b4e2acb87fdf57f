import Derived.Deep.WholeRow
import Derived.Test.YtnepnnkdgejheaaGreatDoorKp05
set_option maxRecDepth 100000
set_option maxHeartbeats 20000000
namespace Go.Proofs.YtnepnnkdgejheaaGreatDoor
open Go.RowKit Plain Tryz
variable {C R S T b hi i lo u v z:Int}{k:Nat}{o y:Bool}{w w':V6}
def atB(S i z:Int)(y:Bool):Bool:=y&&A1 z (i-S) (i+S)
def CQ(S i z:Int)(o y:Bool):Bool:=o||atB S i z y
def wI(S C i b z:Int)(o y:Bool):Int:=if CQ S i z o y then i else if b+1=C then 0 else i
def wB(S i b z:Int)(o y:Bool):Int:=if CQ S i z o y then b else b+1
def wO(S C i b z:Int)(o y:Bool):Bool:=if CQ S i z o y then o else decide (b+1=C)
theorem XI(h:CQ S i z o y=true):wI S C i b z o y=i/\wB S i b z o y=b/\wO S C i b z o y=o:=by
 unfold wI wB wO;rw[if_pos h,if_pos h,if_pos h];exact⟨rfl,rfl,rfl⟩
theorem Jg5(h:CQ S i z o y=false)(j:b+1=C):wI S C i b z o y=0/\wB S i b z o y=b+1/\wO S C i b z o y=true:=by
 unfold wI wB wO;rw[h];simp[j]
theorem Jg6(h:CQ S i z o y=false)(j:b+1≠C):wI S C i b z o y=i/\wB S i b z o y=b+1/\wO S C i b z o y=false:=by
 unfold wI wB wO;rw[h];simp[j]
theorem SW(T R S C i b:Int)(o y:Bool)(z:Int)(m:-1000<=i)(e:i<=1000)(H:0<=S)(Z:S<=1000)(w:V6):
 Va 284 #[.agg #[Vi T,Vi R,Vi S,Vi C],.agg #[Vi i,Vi b,.bool o],.agg #[.bool y,Vi z]] w (Rt w (.bool (atB S i z y))):=by
 have j:=Yy z (i-S) (i+S);have h:=Za (Zc (RS.new w T R S C i b o).2.2 (Zb _ (.cells #[.bool y,Vi z] 175)))
 unfold atB
 generalize A1 z (i-S) (i+S)=x at*
 cases y
 . go_enter func284,ntmps284
   go_wp2;go_ret;exact⟨rfl,h.o⟩
 . go_enter func284,ntmps284
   go_wp2_with (go_at_call 55;refine Sb (j _) fun Y ha=>?_);go_ret;exact⟨by simp,Zc h.o ha⟩
theorem Jg7(T R S C i b:Int)(o y:Bool)(z:Int)(h0:svE T R S C i b o=0)(w:V6):
 Va 249 #[.agg #[Vi T,Vi R,Vi S,Vi C],.agg #[Vi i,Vi b,.bool o],.agg #[.bool y,Vi z]] w (Rt w (.tuple #[.agg #[Vi (wI S C i b z o y),Vi (wB S i b z o y),.bool (wO S C i b z o y)],.nilIface])):=by
 have hd:=Mr T R S C i b o;rw[h0,Z0] at hd;have m:=Za (RSQ.new3 w T R S C i b o y z);obtain⟨W,hs⟩:=Ui h0;have ⟨⟨t0,t1⟩,_,⟨k0,k1⟩,c0,c1⟩:=Yh W;have i0:=(Y2 hs).1.1;have i1:=(Y2 hs).1.2;have b0:=(Y2 hs).2.1.1;have b1:=(Y2 hs).2.1.2;have B:=SW T R S C i b o y z (by omega) (by omega) (by omega) (by omega);clear W hs h0;have hc:CQ S i z o y=(o||atB S i z y):=rfl;generalize atB S i z y=a at*
 cases o
 . cases a
   . by_cases hq:b+1=C
     . obtain⟨e,H,Z⟩:=Jg5 (C:=C) (b:=b) hc hq;rw[e,H,Z];clear hc e H Z
       have hq':(b+1==C)=true:=by simpa using hq
       clear hq
       go_enter func249,ntmps249
       go_wp2_with (first
        |(go_at_call 283;refine Sb (hd _) fun Y ha=>?_;have m:=Za (⟨m.o.1.lq ha,m.o.2.lq ha⟩:RSQ w Y (w.heap.size+1+1+1) T R S C i b false/\B2 Y (w.heap.size+1+1) (.bool y) (Vi z));obtain⟨⟨⟨⟨q0,M,N,P⟩,⟨D,E,F⟩,_⟩,⟨h,_⟩,⟨Q,G,J⟩,j,_⟩,m0,m1⟩:=m.o;have g0:=h 0 (by omega);have I:=h 1 (by omega);have L:=h 2 (by omega);have O:=j 0 (by omega);have U:=j 1 (by omega);have A:=j 2 (by omega);clear ha h j)
        |(go_at_call 284;refine Sb (B _) fun K X=>?_;have m:=Za (⟨m.o.1.lq X,m.o.2.lq X⟩:RSQ w K (w.heap.size+1+1+1) T R S C i b false/\B2 K (w.heap.size+1+1) (.bool y) (Vi z));obtain⟨⟨⟨⟨q0,M,N,P⟩,⟨D,E,F⟩,_⟩,⟨h,_⟩,⟨Q,G,J⟩,j,_⟩,m0,m1⟩:=m.o;have g0:=h 0 (by omega);have I:=h 1 (by omega);have L:=h 2 (by omega);have O:=j 0 (by omega);have U:=j 1 (by omega);have A:=j 2 (by omega);clear X h j))
       exact bodyPost_ret (v:=.tuple #[.agg #[Vi 0,Vi (b+1),.bool true],.nilIface]) (by simp[results,results249,go_sem,Q,G,J]) rfl ⟨rfl,(((((m.o.1.1.2.2.setCell (by simp) _).setCell (by simp) _).setCell (by simp) _).setCell (by simp;omega) _).setCell (by simp;omega) _).setCell (by simp;omega) _⟩
     . obtain⟨e,H,Z⟩:=Jg6 (C:=C) (b:=b) hc hq;rw[e,H,Z];clear hc e H Z
       have hq':(b+1==C)=false:=by simpa using hq
       clear hq
       go_enter func249,ntmps249
       go_wp2_with (first
        |(go_at_call 283;refine Sb (hd _) fun Y ha=>?_;have m:=Za (⟨m.o.1.lq ha,m.o.2.lq ha⟩:RSQ w Y (w.heap.size+1+1+1) T R S C i b false/\B2 Y (w.heap.size+1+1) (.bool y) (Vi z));obtain⟨⟨⟨⟨q0,M,N,P⟩,⟨D,E,F⟩,_⟩,⟨h,_⟩,⟨Q,G,J⟩,j,_⟩,m0,m1⟩:=m.o;have g0:=h 0 (by omega);have I:=h 1 (by omega);have L:=h 2 (by omega);have O:=j 0 (by omega);have U:=j 1 (by omega);have A:=j 2 (by omega);clear ha h j)
        |(go_at_call 284;refine Sb (B _) fun K X=>?_;have m:=Za (⟨m.o.1.lq X,m.o.2.lq X⟩:RSQ w K (w.heap.size+1+1+1) T R S C i b false/\B2 K (w.heap.size+1+1) (.bool y) (Vi z));obtain⟨⟨⟨⟨q0,M,N,P⟩,⟨D,E,F⟩,_⟩,⟨h,_⟩,⟨Q,G,J⟩,j,_⟩,m0,m1⟩:=m.o;have g0:=h 0 (by omega);have I:=h 1 (by omega);have L:=h 2 (by omega);have O:=j 0 (by omega);have U:=j 1 (by omega);have A:=j 2 (by omega);clear X h j))
       exact bodyPost_ret (v:=.tuple #[.agg #[Vi i,Vi (b+1),.bool false],.nilIface]) (by simp[results,results249,go_sem,Q,G,J]) rfl ⟨rfl,(((m.o.1.1.2.2.setCell (by simp) _).setCell (by simp;omega) _).setCell (by simp;omega) _).setCell (by simp;omega) _⟩
   . obtain⟨e,H,Z⟩:=XI (C:=C) (b:=b) hc;rw[e,H,Z];clear hc e H Z
     go_enter func249,ntmps249
     go_wp2_with (first
      |(go_at_call 283;refine Sb (hd _) fun Y ha=>?_;have m:=Za (⟨m.o.1.lq ha,m.o.2.lq ha⟩:RSQ w Y (w.heap.size+1+1+1) T R S C i b false/\B2 Y (w.heap.size+1+1) (.bool y) (Vi z));obtain⟨⟨⟨⟨q0,M,N,P⟩,⟨D,E,F⟩,_⟩,⟨h,_⟩,⟨Q,G,J⟩,j,_⟩,m0,m1⟩:=m.o;have g0:=h 0 (by omega);have I:=h 1 (by omega);have L:=h 2 (by omega);have O:=j 0 (by omega);have U:=j 1 (by omega);have A:=j 2 (by omega);clear ha h j)
      |(go_at_call 284;refine Sb (B _) fun K X=>?_;have m:=Za (⟨m.o.1.lq X,m.o.2.lq X⟩:RSQ w K (w.heap.size+1+1+1) T R S C i b false/\B2 K (w.heap.size+1+1) (.bool y) (Vi z));obtain⟨⟨⟨⟨q0,M,N,P⟩,⟨D,E,F⟩,_⟩,⟨h,_⟩,⟨Q,G,J⟩,j,_⟩,m0,m1⟩:=m.o;have g0:=h 0 (by omega);have I:=h 1 (by omega);have L:=h 2 (by omega);have O:=j 0 (by omega);have U:=j 1 (by omega);have A:=j 2 (by omega);clear X h j))
     exact bodyPost_ret (v:=.tuple #[.agg #[Vi i,Vi b,.bool false],.nilIface]) (by simp[results,results249,go_sem,Q,G,J]) rfl ⟨rfl,((m.o.1.1.2.2.setCell (by simp;omega) _).setCell (by simp;omega) _).setCell (by simp;omega) _⟩
 . obtain⟨e,H,Z⟩:=XI (C:=C) (b:=b) hc;rw[e,H,Z];clear hc e H Z
   go_enter func249,ntmps249
   go_wp2_with (first
    |(go_at_call 283;refine Sb (hd _) fun Y ha=>?_;have m:=Za (⟨m.o.1.lq ha,m.o.2.lq ha⟩:RSQ w Y (w.heap.size+1+1+1) T R S C i b true/\B2 Y (w.heap.size+1+1) (.bool y) (Vi z));obtain⟨⟨⟨⟨q0,M,N,P⟩,⟨D,E,F⟩,_⟩,⟨h,_⟩,⟨Q,G,J⟩,j,_⟩,m0,m1⟩:=m.o;have g0:=h 0 (by omega);have I:=h 1 (by omega);have L:=h 2 (by omega);have O:=j 0 (by omega);have U:=j 1 (by omega);have A:=j 2 (by omega);clear ha h j))
   exact bodyPost_ret (v:=.tuple #[.agg #[Vi i,Vi b,.bool true],.nilIface]) (by simp[results,results249,go_sem,Q,G,J]) rfl ⟨rfl,((m.o.1.1.2.2.setCell (by simp;omega) _).setCell (by simp;omega) _).setCell (by simp;omega) _⟩
theorem SX(T R S C i b:Int)(o y:Bool)(z:Int)(H:arB T R S C=true)(hs:svB T C i b o=true)(w:V6):
 Va 79 #[.agg #[Vi T,Vi R,Vi S,Vi C],.agg #[Vi i,Vi b,.bool o],.agg #[.bool y,Vi z]] w (Rt w (.agg #[Vi (wI S C i b z o y),Vi (wB S i b z o y),.bool (wO S C i b z o y)])):=by
 have ⟨⟨Z,Y⟩,_,⟨X,Q⟩,c0,c1⟩:=Yh H;have G:=(Y2 hs).1.1;have J:=(Y2 hs).1.2;have K:=(Y2 hs).2.1.1;have M:=(Y2 hs).2.1.2;have e:=Zy z (i-S) (i+S);clear H hs;have ha:CQ S i z o y=(o||(y&&A1 z (i-S) (i+S))):=rfl;generalize A1 z (i-S) (i+S)=x at*
 rcases(show o=true\/(o=false/\y=false)\/(o=false/\y=true/\x=false)\/(o=false/\y=true/\x=true) by cases o<;>cases y<;>cases x<;>simp) with rfl|⟨rfl,rfl⟩|⟨rfl,rfl,rfl⟩|⟨rfl,rfl,rfl⟩
 case inl|inr.inr.inr=>
  obtain⟨h,j,m⟩:=XI (C:=C) (b:=b) ha;rw[h,j,m];clear ha h j m
  go_enter func79,ntmps79
  go_wp2_with (go_at_call 22;refine Sm (e _) ?_)
  first
   |exact bodyPost_ret (v:=.agg #[Vi i,Vi b,.bool true]) (by simp[results,results79,go_sem]) rfl ⟨rfl,by repeat (first|exact Zb _ _|refine Zc ?_ Vc)⟩
   |exact bodyPost_ret (v:=.agg #[Vi i,Vi b,.bool false]) (by simp[results,results79,go_sem]) rfl ⟨rfl,by repeat (first|exact Zb _ _|refine Zc ?_ Vc)⟩
 all_goals
  by_cases hq:b+1=C
  . obtain⟨h,j,m⟩:=Jg5 (C:=C) (b:=b) ha hq;rw[h,j,m];clear ha h j m
    have hq':(b+1==C)=true:=by simpa using hq
    clear hq
    go_enter func79,ntmps79
    go_wp2_with (go_at_call 22;refine Sm (e _) ?_);exact bodyPost_ret (v:=.agg #[Vi 0,Vi (b+1),.bool true]) (by simp[results,results79,go_sem]) rfl ⟨rfl,by repeat (first|exact Zb _ _|refine Zc ?_ Vc)⟩
  . obtain⟨h,j,m⟩:=Jg6 (C:=C) (b:=b) ha hq;rw[h,j,m];clear ha h j m
    have hq':(b+1==C)=false:=by simpa using hq
    clear hq
    go_enter func79,ntmps79
    go_wp2_with (go_at_call 22;refine Sm (e _) ?_);exact bodyPost_ret (v:=.agg #[Vi i,Vi (b+1),.bool false]) (by simp[results,results79,go_sem]) rfl ⟨rfl,by repeat (first|exact Zb _ _|refine Zc ?_ Vc)⟩
theorem SY(h:svE T R S C i b o=0):loR T R i o<=hiR T R i o:=by
 obtain⟨y,hs⟩:=Ui h;have a:=Yh y;have c:=Y2 hs
 unfold loR hiR mxA mnA
 cases o
 . simp only[Bool.false_eq_true,if_false];omega
 . simp
abbrev Sv:=Int×Int×Bool
def svD:Sv:=(0,0,false)
def A0(l:List Sv)(k:Nat):Sv:=l.getD k svD
def tk(T R:Int)(s:Sv)(v:Int):Int:=Ze v (loR T R s.1 s.2.2) (hiR T R s.1 s.2.2)
def BU(T R:Int)(l:List Sv)(v:Int):Nat->Int
 |0=>0
 |k+1=>BU T R l v k+tk T R (A0 l k) v
def tot(T R:Int)(l:List Sv)(v:Int):Int:=BU T R l v l.length
def AV(T R S C:Int)(l:List Sv):Prop:=arB T R S C=true/\∀k,k<l.length->svB T C (A0 l k).1 (A0 l k).2.1 (A0 l k).2.2=true
theorem AV.le{l:List Sv}(h:AV T R S C l)(hk:k<l.length):loR T R (A0 l k).1 (A0 l k).2.2<=hiR T R (A0 l k).1 (A0 l k).2.2:=SY (JX h.1 (h.2 k hk))
theorem Jg8(h:arB T R S C=true)(hs:svB T C i b o=true):-1000<=loR T R i o/\loR T R i o<=1000/\-1000<=hiR T R i o/\hiR T R i o<=1000:=by
 have a:=Yh h;have c:=Y2 hs
 unfold loR hiR mxA mnA
 cases o
 . simp only[Bool.false_eq_true,if_false];omega
 . simp
theorem Xb(h:lo<=hi):lo<=Ze v lo hi/\Ze v lo hi<=hi:=by
 unfold Ze;split
 . omega
 . split
   . omega
   . split<;>omega
theorem Jdv(h:v<=u):Ze v lo hi<=Ze u lo hi:=by
 unfold Ze;split<;>(try split)<;>(try split)<;>(try split)<;>(try split)<;>(try split)<;>omega
theorem DV{l:List Sv}(h:AV T R S C l)(hk:k<l.length)(v:Int):-1000<=tk T R (A0 l k) v/\tk T R (A0 l k) v<=1000:=by
 have a:=Xb (v:=v) (h.le hk);have c:=Jg8 h.1 (h.2 k hk)
 unfold tk;omega
theorem Jlm(T R:Int)(s:Sv)(h:v<=u):tk T R s v<=tk T R s u:=Jdv h
theorem IE{l:List Sv}(h:AV T R S C l)(v:Int):∀k:Nat,k<=l.length->-1000*(k:Int)<=BU T R l v k/\BU T R l v k<=1000*(k:Int)
 |0,_=>by simp[BU]
 |k+1,hk=>by
  have a:=IE h v k (by omega);have c:=DV h (show k<l.length by omega) v;simp only[BU];omega
theorem MY(T R:Int)(l:List Sv)(h:v<=u):∀k:Nat,BU T R l v k<=BU T R l u k
 |0=>by simp[BU]
 |k+1=>by have a:=MY T R l h k;have c:=Jlm T R (A0 l k) h;simp only[BU];omega
theorem Ni(T R:Int)(l:List Sv)(h:v<=u):tot T R l v<=tot T R l u:=MY T R l h _
theorem FA{l:List Sv}(h:AV T R S C l)(v:Int)(hl:l.length<=9:=by omega):-9000<=tot T R l v/\tot T R l v<=9000:=by
 have a:=IE h v l.length (Nat.le_refl _)
 unfold tot;omega
def C4(T R:Int)(l:List Sv)(s v:Int):Prop:=-T<=v/\v<=T/\tot T R l v<=s/\(v<T->s<tot T R l (v+1))
theorem C4.unique{l:List Sv}{s:Int}(h:C4 T R l s v)(g:C4 T R l s u):v=u:=by
 obtain⟨h1,h2,h3,h4⟩:=h;obtain⟨j,m,e,y⟩:=g
 rcases Int.lt_trichotomy v u with h|h|h
 . have:=h4 (by omega);have:=Ni T R l (show v+1<=u by omega);omega
 . exact h
 . have:=y (by omega);have:=Ni T R l (show u+1<=v by omega);omega
def lfU(T R:Int)(l:List Sv)(v s:Int):Nat->Int
 |0=>s
 |k+1=>if 0<lfU T R l v s k/\tk T R (A0 l k) v<tk T R (A0 l k) (v+1) then lfU T R l v s k-1 else lfU T R l v s k
def dlI(T R:Int)(l:List Sv)(v s:Int)(k:Nat):Int:=if 0<lfU T R l v s k/\tk T R (A0 l k) v<tk T R (A0 l k) (v+1) then tk T R (A0 l k) v+1 else tk T R (A0 l k) v
def dlU(T R:Int)(l:List Sv)(v s:Int):Nat->List Int
 |0=>[]
 |k+1=>dlU T R l v s k++[dlI T R l v s k]
theorem Xk(T R:Int)(l:List Sv)(v s:Int):∀k:Nat,(dlU T R l v s k).length=k
 |0=>rfl
 |k+1=>by simp[dlU,Xk T R l v s k]
theorem XJ(T R:Int)(l:List Sv)(v s:Int):∀k:Nat,s-k<=lfU T R l v s k/\lfU T R l v s k<=s
 |0=>by simp[lfU]
 |k+1=>by have:=XJ T R l v s k;simp only[lfU];split<;>omega
theorem Ed(v:Int)(w:V6):
 Va 421 #[.agg #[],Vi v] w (Rt w (Vi 0)):=by
 go_enter func421,ntmps421
 go_wp2;go_ret;exact⟨rfl,Zb _ _⟩
theorem Ee(lo hi v:Int)(w:V6):
 Va 422 #[.agg #[Vi lo,Vi hi],Vi v] w (Rt w (Vi (Ze v lo hi))):=by
 go_enter func422,ntmps422
 go_wp2_with (go_at_call 264;refine Sm (Y1 _ _ _ _) ?_);go_ret;exact⟨rfl,Zb _ _⟩
theorem Ef(x x':Value)(w:V6):Sem.run prog (method 605 454 (.agg #[x,x']) "fulmar/share.takes") w=.ok (422,.agg #[x,x']) w:=by kernel_rfl
theorem GL(w:V6):Sem.run prog (method 605 453 (.agg #[]) "fulmar/share.takes") w=.ok (421,.agg #[]) w:=by kernel_rfl
def tv(T R:Int)(s:Sv):Value:=if s.2.2 then .iface 453 (.agg #[]) else .iface 454 (.agg #[Vi (loR T R s.1 s.2.2),Vi (hiR T R s.1 s.2.2)])
theorem P5{s:Sv}(h:s.2.2=true):tk T R s v=0:=by
 unfold tk loR hiR Ze;rw[h];simp only[if_true];split
 . rfl
 . split
   . rfl
   . split<;>omega
def WLs(w:V6)(a:V8)(T R:Int)(l:List Sv):Prop:=l=[]\/∃b off,a=some (Ad b off)/\∀k,k<l.length->Kc w b (off+k) (tv T R (A0 l k))
theorem WLs.lq{a:V8}{l:List Sv}(h:WLs w a T R l)(y:Bw w w'):WLs w' a T R l:=by
 rcases h with h|⟨b,off,h,hc⟩
 . exact .inl h
 . exact .inr ⟨b,off,h,fun k hk=>cell_later y (hc k hk)⟩
theorem WLs.at{a:V8}{l:List Sv}(h:WLs w a T R l)(hk:k<l.length):∃b off,a=some (Ad b off)/\Kc w b (off+k) (tv T R (A0 l k)):=by
 rcases h with h|⟨b,off,h,hc⟩
 . subst h;simp at hk
 . exact⟨b,off,h,hc k hk⟩
theorem Mt(T R S C:Int)(l:List Sv)(v:Int)(a:V8)(cap:Nat)(j:AV T R S C l)(hl:l.length<=9)(w:V6)(hw:WLs w a T R l):
 Va 325 #[.slice a l.length cap,Vi v] w (Rt w (Vi (tot T R l v))):=by
 have HW:=Za hw;have m:=Za j;have X:=Ef;have Q:=GL;clear hw j
 go_enter func325,ntmps325
 go_wp2
 go_loopw [5,10] (fun s i wr=>∃k:Nat,k<=l.length/\i=Vi k/\s=Vi (BU T R l v k)/\Bw w wr) (fun _ i _=>l.length-(intOf i).toNat)
 case atStart=>exact⟨0,Nat.zero_le _,rfl,rfl,Below.refl _ _⟩
 case round=>
  obtain⟨k,hk,rfl,rfl,H⟩:=hrel;have y:=Za H;have G:=IE m.o v k hk;clear H
  by_cases hlt:k<l.length
  . obtain⟨J,off,rfl,hc⟩:=(HW.o.lq y.o).at hlt;have K:=DV m.o hlt v;have Z:=Za (show BU T R l v (k+1)=BU T R l v k+tk T R (A0 l k) v from rfl);have ha:tk T R (A0 l k) v=Ze v (loR T R (A0 l k).1 (A0 l k).2.2) (hiR T R (A0 l k).1 (A0 l k).2.2):=rfl
    have M:(0:Int)<=(k:Int):=by omega
    have N:(k:Int)<(l.length:Int):=by omega
    generalize BU T R l v k=s at*
    cases ho:(A0 l k).2.2
    . have h:=Ee (loR T R (A0 l k).1 (A0 l k).2.2) (hiR T R (A0 l k).1 (A0 l k).2.2) v;rw[<-ha] at h
      unfold tv at hc
      rw[if_neg (by simp[ho])] at hc;clear ha ho;generalize tk T R (A0 l k) v=t at *;generalize loR T R (A0 l k).1 (A0 l k).2.2=lo at *;generalize hiR T R (A0 l k).1 (A0 l k).2.2=hi at*
      go_wp2_with (go_at_call 422;refine Sb (h _) fun Y hd=>?_);go_roundw
      case rel=>exact⟨k+1,by omega,by go_num,by rw[Z.o],Zc y.o hd⟩
      case measure=>simp[intOf];omega
    . have h:=Ed v;rw[<-P5 (T:=T) (R:=R) (v:=v) ho] at h
      unfold tv at hc
      rw[if_pos ho] at hc;clear ha ho;generalize tk T R (A0 l k) v=t at*
      go_wp2_with (go_at_call 421;refine Sb (h _) fun Y hd=>?_);go_roundw
      case rel=>exact⟨k+1,by omega,by go_num,by rw[Z.o],Zc y.o hd⟩
      case measure=>simp[intOf];omega
  . have e:k=l.length:=by omega
    subst e;go_wp2;go_ret;exact⟨rfl,y.o⟩
theorem FH(T R S C i b:Int)(o:Bool)(v:Int)(y:arB T R S C=true)(hs:svB T C i b o=true)(w:V6):
 Va 188 #[.agg #[Vi T,Vi R,Vi S,Vi C],.agg #[Vi i,Vi b,.bool o],Vi v] w (Rt w (Vi (tk T R (i,b,o) v))):=by
 have ha:=SV T R S C i b o y hs;have j:=Yx v (loR T R i o) (hiR T R i o) (h:=SY (JX y hs));have m:=Za (RS.new w T R S C i b o).2.2
 unfold tk
 clear y hs;generalize Ze v (loR T R i o) (hiR T R i o)=t at *;generalize loR T R i o=lo at *;generalize hiR T R i o=hi at*
 go_enter func188,ntmps188
 go_wp2_with (first
  |(go_at_call 235;refine Sb (ha _) fun e hc=>?_)
  |(go_at_call 72;refine Sm (j _) ?_))
 go_ret;exact⟨rfl,Zc (Zc m.o hc) Vc⟩
def ILs(w:V6)(a:V8)(l:V9):Prop:=l=[]\/∃b off,a=some (Ad b off)/\∀k,k<l.length->V2 w b (off+k) (l.getD k 0)
theorem ILs.lq{a:V8}{l:V9}(h:ILs w a l)(y:Bw w w'):ILs w' a l:=by
 rcases h with h|⟨b,off,h,hc⟩
 . exact .inl h
 . exact .inr ⟨b,off,h,fun k hk=>cell_later y (hc k hk)⟩
theorem TG(h3:o=true->i=0)(h4:o=false->b<C)(h1:-T<=i/\i<=T:=by omega)(h2:0<=b/\b<=C:=by omega):svB T C i b o=true:=by
 simp only[svB,Bool.and_eq_true,Bool.or_eq_true,Bool.not_eq_true',beq_iff_eq,decide_eq_true_eq];refine⟨⟨⟨Xs h1.1 h1.2,Xs h2.1 h2.2⟩,?_⟩,?_⟩
 . cases o
   . exact .inl rfl
   . exact .inr (h3 rfl)
 . cases o
   . exact .inr (h4 rfl)
   . exact .inl rfl
def VLs(w:V6)(a:V8)(l:List Sv):Prop:=l=[]\/∃b off,a=some (Ad b off)/\∀k,k<l.length->V2 w b (off+k*3) (A0 l k).1/\V2 w b (off+k*3+1) (A0 l k).2.1/\Kc w b (off+k*3+2) (.bool (A0 l k).2.2)
theorem VLs.lq{a:V8}{l:List Sv}(h:VLs w a l)(y:Bw w w'):VLs w' a l:=by
 rcases h with h|⟨b,off,h,hc⟩
 . exact .inl h
 . exact .inr ⟨b,off,h,fun k hk=>⟨cell_later y (hc k hk).1,cell_later y (hc k hk).2.1,cell_later y (hc k hk).2.2⟩⟩
theorem VLs.at{a:V8}{l:List Sv}(h:VLs w a l)(hk:k<l.length):∃b off,a=some (Ad b off)/\V2 w b (off+k*3) (A0 l k).1/\V2 w b (off+k*3+1) (A0 l k).2.1/\Kc w b (off+k*3+2) (.bool (A0 l k).2.2):=by
 rcases h with h|⟨b,off,h,hc⟩
 . subst h;simp at hk
 . exact⟨b,off,h,hc k hk⟩
theorem Jhh{u u':V6}{bl ol:Nat}(y:Bw u u')(h:(V0 u w 0 T/\V0 u w 1 R/\V0 u w 2 S/\V0 u w 3 C)/\(V2 u bl (ol+k*3) i/\V2 u bl (ol+k*3+1) b/\Kc u bl (ol+k*3+2) (.bool o))/\Bw w u):(V0 u' w 0 T/\V0 u' w 1 R/\V0 u' w 2 S/\V0 u' w 3 C)/\(V2 u' bl (ol+k*3) i/\V2 u' bl (ol+k*3+1) b/\Kc u' bl (ol+k*3+2) (.bool o))/\Bw w u':=
 ⟨B4.lq h.1 y,⟨cell_later y h.2.1.1,cell_later y h.2.1.2.1,cell_later y h.2.1.2.2⟩,Zc h.2.2 y⟩
def RB(h w:V6)(T R S C:Int):Prop:=B4 w h.heap.size (Vi T) (Vi R) (Vi S) (Vi C)/\Bw h w
theorem RB.lq{w0:V6}(h:RB w0 w T R S C)(y:Bw w w'):RB w0 w' T R S C:=⟨h.1.lq y,Zc h.2 y⟩
theorem RB.new(w:V6)(T R S C:Int):RB w (w.alloc (.cells #[Vi T,Vi R,Vi S,Vi C] 172)) T R S C:=⟨B4.new _ _ _ _ _ _,Zb _ _⟩
theorem Jd2(T R S C:Int)(l:List Sv)(v:Int)(a:V8)(cap:Nat)(ha:AV T R S C l)(hl:l.length<=9)(w:V6)(H:VLs w a l):
 Va 187 #[.agg #[Vi T,Vi R,Vi S,Vi C],.slice a l.length cap,Vi v] w (Rt w (Vi (tot T R l v))):=by
 have Q:=Za H;have m:=Za ha;have Y:=Za (RB.new w T R S C);clear H ha
 go_enter func187,ntmps187
 go_wp2
 go_loopw [7,8] (fun s i wr=>∃k:Nat,k<=l.length/\i=Vi k/\s=Vi (BU T R l v k)/\RB w wr T R S C) (fun _ i _=>l.length-(intOf i).toNat)
 case atStart=>exact⟨0,Nat.zero_le _,rfl,rfl,Y.o⟩
 case round=>
  clear Y;obtain⟨k,hk,rfl,rfl,j⟩:=hrel;have K:=IE m.o v k hk
  by_cases hlt:k<l.length
  . obtain⟨h,y,rfl,d0,d1,d2⟩:=(Q.o.lq j.2).at hlt;have hc:=FH T R S C (A0 l k).1 (A0 l k).2.1 (A0 l k).2.2 v m.o.1 (m.o.2 k hlt);have hd:=DV m.o hlt v;have G:=Za (show BU T R l v (k+1)=BU T R l v k+tk T R ((A0 l k).1,(A0 l k).2.1,(A0 l k).2.2) v from rfl);rw[show tk T R (A0 l k) v=tk T R ((A0 l k).1,(A0 l k).2.1,(A0 l k).2.2) v from rfl] at hd
    have M:(0:Int)<=(k:Int):=by omega
    have N:(k:Int)<(l.length:Int):=by omega
    generalize BU T R l v k=s at *;generalize tk T R ((A0 l k).1,(A0 l k).2.1,(A0 l k).2.2) v=t at *;generalize (A0 l k).1=i at *;generalize (A0 l k).2.1=b at *;generalize (A0 l k).2.2=o at *;have J:(V0 wr w 0 T/\V0 wr w 1 R/\V0 wr w 2 S/\V0 wr w 3 C)/\(V2 wr h (y+k*3) i/\V2 wr h (y+k*3+1) b/\Kc wr h (y+k*3+2) (.bool o))/\Bw w wr:=⟨j.1,⟨d0,d1,d2⟩,j.2⟩;have Z:=Za J;clear j d0 d1 d2
    go_upto_region 5 with fail
    go_region_held3 (fun u=>(V0 u w 0 T/\V0 u w 1 R/\V0 u w 2 S/\V0 u w 3 C)/\(V2 u h (y+k*3) i/\V2 u h (y+k*3+1) b/\Kc u h (y+k*3+2) (.bool o))/\Bw w u)
     (first
      |(with_reducible assumption)
      |(with_reducible refine Jhh Vc ?_;with_reducible assumption)
      |(with_reducible apply Jhh;with_reducible assumption;with_reducible assumption)
      |(refine Jhh ?_ Z.o;exact Vb))
     (first
      |(go_at_call 188;refine Sb (hc _) fun w' P=>?_))
    all_goals
     rename_i hH
     have X:=Za hH;clear hH;go_wp2_with fail;go_roundw
     (case rel=>exact⟨k+1,by omega,by go_num,by rw[G.o,Xj (by omega) (by omega)],X.o.1,X.o.2.2⟩)
     (case measure=>simp[intOf];omega)
  . have e:k=l.length:=by omega
    subst e;go_wp2;go_ret;exact⟨rfl,j.2⟩
def smU(l:List Sv):Nat->Int
 |0=>0
 |k+1=>smU l k+(A0 l k).1
theorem XQ{l:List Sv}(h:∀k,k<l.length->-2147483647<=(A0 l k).1/\(A0 l k).1<=2147483647):∀k:Nat,k<=l.length->-2147483647*(k:Int)<=smU l k/\smU l k<=2147483647*(k:Int)
 |0,_=>by simp[smU]
 |k+1,hk=>by
  have a:=XQ h k (by omega);have c:=h k (by omega);simp only[smU];omega
theorem NJ(l:List Sv)(a:V8)(cap:Nat)(hl:l.length<=9)(hi:∀k,k<l.length->-2147483647<=(A0 l k).1/\(A0 l k).1<=2147483647)(w:V6)(h:VLs w a l):
 Va 135 #[.slice a l.length cap] w (Re w (Vi (smU l l.length))):=by
 have j:=Za h;have y:=Za hi;clear h hi
 go_enter func135,ntmps135
 go_wp2
 go_loop [3,4] (fun s i=>∃k:Nat,k<=l.length/\i=Vi k/\s=Vi (smU l k)) (fun _ i=>l.length-(intOf i).toNat)
 case atStart=>exact⟨0,Nat.zero_le _,rfl,rfl⟩
 case round=>
  obtain⟨k,hk,rfl,rfl⟩:=hrel;have ha:=XQ y.o k hk
  by_cases hlt:k<l.length
  . obtain⟨H,Z,rfl,d0,d1,d2⟩:=j.o.at hlt;have Y:=y.o k hlt;have m:=Za (show smU l (k+1)=smU l k+(A0 l k).1 from rfl)
    have X:(0:Int)<=(k:Int):=by omega
    have Q:(k:Int)<(l.length:Int):=by omega
    generalize smU l k=s at *;generalize (A0 l k).1=i at *;go_wp2
    go_round
    case rel=>exact⟨k+1,by omega,by go_num,by rw[m.o]⟩
    case measure=>simp[intOf];omega
  . have e:k=l.length:=by omega
    subst e;go_wp2;go_ret;exact⟨rfl,rfl⟩
theorem E5(l:List Sv)(a:V8)(cap:Nat)(hl:l.length<=9)(hi:∀k,k<l.length->-2147483647<=(A0 l k).1/\(A0 l k).1<=2147483647)(w:V6)(y:VLs w a l):
 Va 294 #[.slice a l.length cap] w (Rt w (Vi (smU l l.length))):=by
 have m:=Za y;have j:=Za hi;clear y hi
 go_enter func294,ntmps294
 go_wp2
 go_loopw [3,8] (fun s i wr=>∃k:Nat,k<=l.length/\i=Vi k/\s=Vi (smU l k)/\Bw w wr) (fun _ i _=>l.length-(intOf i).toNat)
 case atStart=>exact⟨0,Nat.zero_le _,rfl,rfl,Below.refl _ _⟩
 case round=>
  obtain⟨k,hk,rfl,rfl,h⟩:=hrel;have ha:=XQ j.o k hk
  by_cases hlt:k<l.length
  . obtain⟨Y,X,rfl,d0,d1,d2⟩:=(m.o.lq h).at hlt;have hc:=j.o k hlt;have H:=Za (show smU l (k+1)=smU l k+(A0 l k).1 from rfl);have Z:=Za h
    have Q:(0:Int)<=(k:Int):=by omega
    have G:(k:Int)<(l.length:Int):=by omega
    clear h;generalize smU l k=s at *;generalize (A0 l k).1=i at *;go_wp2;go_roundw
    case rel=>exact⟨k+1,by omega,by go_num,by rw[H.o],Zc Z.o Vc⟩
    case measure=>simp[intOf];omega
  . have e:k=l.length:=by omega
    subst e;go_wp2;go_ret;exact⟨rfl,h⟩
end Go.Proofs.YtnepnnkdgejheaaGreatDoor
