import Derived.ChangeKeysEq
import Derived.Test.YtnepnnkdgejheaaGreatDoorKp15
import Derived.Test.YtnepnnkdgejheaaGreatDoorKp19
set_option maxRecDepth 100000
set_option maxHeartbeats 20000000
namespace Go.Proofs.YtnepnnkdgejheaaGreatDoor
open Go.RowKit Plain Tryz
variable {B V g i j k n:Nat}{a b:Int}{l:List Rd}{t:TypeId}{u u' w:V6}{v:Value}
theorem B9.rds(h:B9 B v l w):∃a cap,v=.slice a l.length cap/\Rds w a l:=by
 rcases h.1.2 with⟨rfl,e⟩|⟨g,cap,ha,rfl,_,m,r1,r2,r3,r4⟩
 . have hl:l=[]:=h.2.1 rfl;subst hl;exact⟨none,0,rfl,.inl rfl⟩
 . refine⟨_,cap,rfl,.inr ⟨g,rfl,fun k hk=>?_⟩⟩
   have hc:∀j,j<4->w.cell? (Ad g (k*4+j))=(AG (rat l k))[j]?:=fun j H=>by
    have y:k*4+j<l.length*4:=by omega
    have h1:(ha.toList.take (l.length*4))[k*4+j]?=(A9 l)[k*4+j]?:=by rw[r4]
    rw[List.getElem?_take_of_lt y,DQ l _ y,show(k*4+j)/4=k by omega,show(k*4+j)%4=j by omega,Array.getElem?_toList] at h1;simp only[World.cell?,m];simp only[Option.isSome_none,Bool.false_eq_true,if_false];exact h1
   exact⟨hc 0 (by omega),hc 1 (by omega),hc 2 (by omega),hc 3 (by omega)⟩
def BA(a b:Int)(l:List Rd):Value:=match fnd a b l with
 |some r=>.tuple #[rdV r,.bool true]
 |none=>.tuple #[.agg #[Vi 0,Vi 0,Vi 0,Vi 0],.bool false]
theorem SO(hk:k<l.length)(h:BA a b l=BA a b (l.drop k))(h1:(rat l k).1=a)(h2:(rat l k).2.1=b):BA a b l=.tuple #[rdV (rat l k),.bool true]:=by
 rw[h]
 unfold BA
 rw[RH a b l k hk,if_pos ⟨h1,h2⟩]
theorem OU(hk:k<l.length)(y:BA a b l=BA a b (l.drop k))(h:¬((rat l k).1=a/\(rat l k).2.1=b)):BA a b l=BA a b (l.drop (k+1)):=by
 rw[y]
 unfold BA
 rw[RH a b l k hk,if_neg h]
theorem SQ(h:BA a b l=BA a b (l.drop l.length)):BA a b l=.tuple #[.agg #[Vi 0,Vi 0,Vi 0,Vi 0],.bool false]:=by
 rw[h,List.drop_length]
 rfl
theorem Jdt(a:V8)(cap:Nat)(l:List Rd)(x y:Int)(hl:l.length<=1000)(w:V6)(H:Rds w a l):
 Va 134 #[.slice a l.length cap,Vi x,Vi y] w (Rt w (BA x y l)):=by
 have G:=Za (H.lq (Zb w (.cells #[Vi 0,Vi 0,Vi 0,Vi 0] 155)));have Z:=Za (Zb w (.cells #[Vi 0,Vi 0,Vi 0,Vi 0] 155));have Y:=Za (AC.new w 0 0 0 0 155);clear H
 go_enter func134,ntmps134
 go_wp2;generalize w.alloc (.cells #[Vi 0,Vi 0,Vi 0,Vi 0] 155)=w1 at *;obtain⟨B,e⟩:∃B,B=w.heap.size:=⟨_,rfl⟩;rw[<-e] at Y;rw[<-e];have X:=Za e;clear e
 go_loop [8] (fun i=>∃k:Nat,k<=l.length/\i=Vi k/\Hd (BA x y l=BA x y (l.drop k))) (fun i=>l.length-(intOf i).toNat)
 case atStart=>exact⟨0,Nat.zero_le _,rfl,by show BA x y l=BA x y (l.drop 0);rw[List.drop_zero]⟩
 case round=>
  obtain⟨k,hk,rfl,j⟩:=hrel;obtain⟨T,J,K,M,N,P,D,f3,_⟩:=Y.o
  by_cases hlt:k<l.length
  . obtain⟨g,rfl,c0,c1,c2,c3⟩:=G.o.at hlt
    by_cases h1:(rat l k).1=x
    . by_cases h2:(rat l k).2.1=y
      . have m:=Za (SO hlt j.o h1 h2)
        unfold rdV at m
        generalize (rat l k).1=r1 at *;generalize (rat l k).2.1=r2 at *;generalize (rat l k).2.2.1=r3 at *;generalize (rat l k).2.2.2=r4 at*
        have Q:(r1==x)=true:=by simpa using h1
        have R:(r2==y)=true:=by simpa using h2
        clear j h1 h2;go_wp2;refine bodyPost_ret (v:=.tuple #[.agg #[Vi r1,Vi r2,Vi r3,Vi r4],.bool true]) (by simp[results,results134,go_sem, *]) rfl ⟨by rw[m.o],?_⟩;exact Nf Z.o (by rw[X.o];exact Nat.le_refl _) _ _ _ _
      . have m:=Za (OU hlt j.o (fun h=>h2 h.2));generalize (rat l k).1=r1 at *;generalize (rat l k).2.1=r2 at*
        have Q:(r1==x)=true:=by simpa using h1
        have R:(r2==y)=false:=by simpa using h2
        clear j h1 h2;go_wp2
        go_round
        case rel=>exact⟨k+1,by omega,by go_num,m⟩
        case measure=>simp[intOf];omega
    . have m:=Za (OU hlt j.o (fun h=>h1 h.1));generalize (rat l k).1=r1 at*
      have Q:(r1==x)=false:=by simpa using h1
      clear j h1;go_wp2
      go_round
      case rel=>exact⟨k+1,by omega,by go_num,m⟩
      case measure=>simp[intOf];omega
  . obtain rfl:k=l.length:=by omega
    have m:=Za (SQ j.o);clear j;go_wp2;refine bodyPost_ret (v:=.tuple #[.agg #[Vi 0,Vi 0,Vi 0,Vi 0],.bool false]) (by simp[results,results134,go_sem, *]) rfl ⟨by rw[m.o],?_⟩;exact Nf Z.o (by rw[X.o];exact Nat.le_refl _) _ _ _ _
theorem Jg3:∃i,prog.info? 3=some i/\i.size=1:=by
 have h:(prog.info? 3).map (·.size)=some 1:=by kernel_rfl
 cases hq:prog.info? 3 with
 |none=>rw[hq] at h;cases h
 |some i=>rw[hq] at h;exact⟨i,rfl,by simpa using h⟩
theorem Jox(d:Nat)(a b p q:Int)(w:V6):(Op.equalIn (d+1+1) 319 (.agg #[Vi a,Vi b]) (.agg #[Vi p,Vi q])).run prog w=.ok (decide (a=p)&&decide (b=q)) w:=by
 obtain⟨i,hi,_⟩:=Jg3;rw[run_equalIn_array w _ _ _ F5 hi,Jau,show List.range 2=[0,1] from rfl]
 by_cases h1:a=p
 . by_cases h2:b=q
   . simp[Op.eqItems,go_sem,h1,h2]
   . have:(b==q)=false:=by simpa using h2
     simp[Op.eqItems,go_sem,h1,h2,this]
 . have:(a==p)=false:=by simpa using h1
   simp[Op.eqItems,go_sem,h1,this]
def SR(w u:V6)(B:Nat)(a:V8)(l:List Rd)(x y:Int):Prop:=
 AC u B 0 0 0 0/\(V2 u (B+1) 0 x/\V2 u (B+1) 1 y)/\Rds u a l/\Below B w u
theorem SR.lq{a:V8}{x y:Int}(h:SR w u B a l x y)(j:Bw u u'):SR w u' B a l x y:=
 ⟨h.1.lq j,⟨cell_later j h.2.1.1,cell_later j h.2.1.2⟩,h.2.2.1.lq j,h.2.2.2.trans (j.mono (Nat.le_of_lt h.1.2.2.2.2.2.2.2.2))⟩
theorem SS(a:V8)(cap:Nat)(l:List Rd)(x y:Int)(hl:l.length<=1000)(w:V6)(M:Rds w a l):
 Va 262 #[.slice a l.length cap,Vi x,Vi y] w (Rt w (BA x y l)):=by
 have Y:=Jox;have N:Hd (SR w ((w.alloc (.cells #[Vi 0,Vi 0,Vi 0,Vi 0] 155)).alloc (.cells #[Vi x,Vi y] 319)) w.heap.size a l x y):=
  Za ⟨(AC.new w 0 0 0 0 155).lq Vc,⟨by simp[go_sem],by simp[go_sem]⟩,M.lq (Zc Vc Vc),Zc Vc Vc⟩
 clear M
 go_enter func262,ntmps262
 go_wp2;generalize (w.alloc (.cells #[Vi 0,Vi 0,Vi 0,Vi 0] 155)).alloc (.cells #[Vi x,Vi y] 319)=w1 at *;obtain⟨B,R⟩:∃B,B=w.heap.size:=⟨_,rfl⟩;rw[<-R] at N;rw[<-R];have P:=Za R;clear R
 go_loopw [16] (fun i wr=>∃k:Nat,k<=l.length/\i=Vi k/\Hd (BA x y l=BA x y (l.drop k))/\SR w wr B a l x y) (fun i _=>l.length-(intOf i).toNat)
 case atStart=>exact⟨0,Nat.zero_le _,rfl,by show BA x y l=BA x y (l.drop 0);rw[List.drop_zero],N.o⟩
 case round=>
  obtain⟨k,hk,rfl,X,hS⟩:=hrel;have Q:=Za hS;clear hS
  by_cases hlt:k<l.length
  . obtain⟨g,rfl,c0,c1,c2,c3⟩:=Q.o.2.2.1.at hlt;have T:=Za (fun h1 h2=>SO hlt X.o h1 h2);have K:=Za (fun h=>OU hlt X.o h)
    unfold rdV at T
    generalize (rat l k).1=r1 at *;generalize (rat l k).2.1=r2 at *;generalize (rat l k).2.2.1=r3 at *;generalize (rat l k).2.2.2=r4 at *;clear X
    go_upto_region 5 with fail;have J:=Za (Q.o.lq (Zb wr (.cells #[Vi r1,Vi r2,Vi r3,Vi r4] 155)));have H:=Za (AC.new wr r1 r2 r3 r4 155);generalize wr.alloc (.cells #[Vi r1,Vi r2,Vi r3,Vi r4] 155)=w2 at *;generalize wr.heap.size=V at *;have Z:Hd (V2 w2 V 0 r1/\V2 w2 V 1 r2/\V2 w2 V 2 r3/\V2 w2 V 3 r4/\V2 w2 (B+1) 0 x/\V2 w2 (B+1) 1 y):=Za ⟨H.o.1,H.o.2.1,H.o.2.2.1,H.o.2.2.2.1,J.o.2.1.1,J.o.2.1.2⟩;clear c0 c1 c2 c3
    by_cases h:r1=x/\r2=y
    . have D:∀d w,(Op.equalIn (d+1+1) 319 (.agg #[Vi r1,Vi r2]) (.agg #[Vi x,Vi y])).run prog w=.ok true w:=fun d w=>by rw[Y];simp[h]
      have G:=Za (T.o h.1 h.2);clear T K h Y
      go_region_held3 (fun u=>(V2 u V 0 r1/\V2 u V 1 r2/\V2 u V 2 r3/\V2 u V 3 r4/\V2 u (B+1) 0 x/\V2 u (B+1) 1 y))
       (first
        |(with_reducible assumption)
        |exact Z.o)
       (first
        |(go_at_call 210;refine Sb (XF r1 r2 r3 r4 _) fun j ha=>?_;have m:=Za (H.o.drew.lq ha);have e:=Za ((J.o.lq Vb).lq ha);have KS3:(V2 j V 0 r1/\V2 j V 1 r2/\V2 j V 2 r3/\V2 j V 3 r4/\V2 j (B+1) 0 x/\V2 j (B+1) 1 y):=⟨m.o.1,m.o.2.1,m.o.2.2.1,m.o.2.2.2.1,e.o.2.1.1,e.o.2.1.2⟩;clear ha))
      all_goals
       obtain⟨C,E,F,I,L,O,U,f3,_⟩:=e.o.1;obtain⟨A,W,z2,z3,_⟩:=m.o;go_wp2_with fail;refine bodyPost_ret (v:=.tuple #[.agg #[Vi r1,Vi r2,Vi r3,Vi r4],.bool true]) (by simp[results,results262,go_sem, *]) rfl ⟨by rw[G.o],?_⟩;rw[P.o] at e|-;exact Nf e.o.2.2.2 (Nat.le_refl _) _ _ _ _
    . have D:∀d w,(Op.equalIn (d+1+1) 319 (.agg #[Vi r1,Vi r2]) (.agg #[Vi x,Vi y])).run prog w=.ok false w:=fun d w=>by rw[Y];simp;intro h1 h2;exact h ⟨h1,h2⟩
      have G:=Za (K.o h);clear T K h Y
      go_region_held3 (fun u=>(V2 u V 0 r1/\V2 u V 1 r2/\V2 u V 2 r3/\V2 u V 3 r4/\V2 u (B+1) 0 x/\V2 u (B+1) 1 y))
       (first
        |(with_reducible assumption)
        |exact Z.o)
       (first
        |(go_at_call 210;refine Sb (XF r1 r2 r3 r4 _) fun j ha=>?_;have m:=Za (H.o.drew.lq ha);have e:=Za ((J.o.lq Vb).lq ha);have KS3:(V2 j V 0 r1/\V2 j V 1 r2/\V2 j V 2 r3/\V2 j V 3 r4/\V2 j (B+1) 0 x/\V2 j (B+1) 1 y):=⟨m.o.1,m.o.2.1,m.o.2.2.1,m.o.2.2.2.1,e.o.2.1.1,e.o.2.1.2⟩;clear ha))
      all_goals
       go_wp2_with fail;go_roundw
       (case rel=>exact⟨k+1,by omega,by go_num,G,e.o⟩)
       (case measure=>simp[intOf];omega)
  . obtain rfl:k=l.length:=by omega
    have G:=Za (SQ X.o);obtain⟨C,E,F,I,L,O,U,f3,_⟩:=Q.o.1;clear X Y;go_wp2;refine bodyPost_ret (v:=.tuple #[.agg #[Vi 0,Vi 0,Vi 0,Vi 0],.bool false]) (by simp[results,results262,go_sem, *]) rfl ⟨by rw[G.o],?_⟩;rw[P.o] at Q|-;exact Nf Q.o.2.2.2 (Nat.le_refl _) _ _ _ _
theorem SU(l:List Rd)(x y:Int):∃(r1 r2 r3 r4:Int) (b:Bool),BA x y l=.tuple #[.agg #[Vi r1,Vi r2,Vi r3,Vi r4],.bool b]/\((b=true/\r3=3/\smp l x y=(true,r4))\/(b=true/\r3≠3/\smp l x y=(false,0))\/(b=false/\smp l x y=(false,0))):=by
 unfold BA smp
 cases fnd x y l with
 |none=>exact⟨0,0,0,0,false,rfl,.inr (.inr ⟨rfl,rfl⟩)⟩
 |some r=>
  by_cases h:r.2.2.1=3
  . exact⟨r.1,r.2.1,r.2.2.1,r.2.2.2,true,rfl,.inl ⟨rfl,h,by simp[h]⟩⟩
  . exact⟨r.1,r.2.1,r.2.2.1,r.2.2.2,true,rfl,.inr (.inl ⟨rfl,h,by simp[h]⟩)⟩
theorem Ng(B:Nat)(a:V8)(cap:Nat)(l:List Rd)(x y:Int)(hl:l.length<=1000)(w:V6)(hc:Kc w B 62 (.slice a l.length cap))(Z:Rds w a l):
 Va 250 #[Ve B 0,Vi x,Vi y] w (Rt w (.agg #[.bool (smp l x y).1,Vi (smp l x y).2])):=by
 have X:=Za (Z.lq (Zb w (.cells #[.bool false,Vi 0] 175)));have Q:Hd (Blk 175 (w.alloc (.cells #[.bool false,Vi 0] 175)) w.heap.size [.bool false,Vi 0]):=Za (Blk.new w _ _);have G:=Za (Zb w (.cells #[.bool false,Vi 0] 175));have J:=cell_later (Zb w (.cells #[.bool false,Vi 0] 175)) hc;clear hc;clear Z;obtain⟨r1,r2,r3,r4,b,R,hs⟩:=SU l x y;have hs':Hd _:=Za hs;clear hs
 go_enter func250,ntmps250
 go_upto_region 1 with fail;generalize w.alloc (.cells #[.bool false,Vi 0] 175)=w0 at *;have HW:Hd (∀h,Bw w0 h->Blk 175 (h.alloc (.cells #[Vi r1,Vi r2,Vi r3,Vi r4] 155)) w.heap.size [.bool false,Vi 0]/\Blk 155 (h.alloc (.cells #[Vi r1,Vi r2,Vi r3,Vi r4] 155)) h.heap.size [Vi r1,Vi r2,Vi r3,Vi r4]/\Bw w (h.alloc (.cells #[Vi r1,Vi r2,Vi r3,Vi r4] 155))):=Za (fun h e=>⟨(Q.o.lq e).lq Vc,Blk.new h _ [Vi r1,Vi r2,Vi r3,Vi r4],Zc (Zc G.o e) Vc⟩)
 go_upto_region 2 with(first
  |(go_at_call 262;refine Sb (SS a cap l x y hl _ X.o) fun h e=>?_;rw[R];have m:=Za (HW.o h e);clear e HW))
 generalize h.alloc (.cells #[Vi r1,Vi r2,Vi r3,Vi r4] 155)=w2 at *;generalize h.heap.size=E at *;have q0:=(m.o.1.cell (j:=0) rfl).1;have H:=(m.o.1.cell (j:=1) rfl).1;have K:=(m.o.1.cell (j:=0) rfl).2;have M:=(m.o.1.cell (j:=1) rfl).2;have N:=(m.o.2.1.cell (j:=2) rfl).1;have P:=(m.o.2.1.cell (j:=3) rfl).1;have h1:=(m.o.2.2.setCell (p:=⟨w.heap.size,0,none⟩) (by simp) (.bool true)).setCell (p:=⟨w.heap.size,1,none⟩) (by simp) (Vi r4);have h0:=(m.o.2.2.setCell (p:=⟨w.heap.size,0,none⟩) (by simp) (.bool false)).setCell (p:=⟨w.heap.size,1,none⟩) (by simp) (Vi 0);have T:=Za h1;have Y:=Za h0;clear h0 h1
 rcases hs'.o with⟨rfl,hd,ha⟩|⟨rfl,hd,ha⟩|⟨rfl,ha⟩
 . subst hd;go_wp2;exact bodyPost_ret (v:=.agg #[.bool true,Vi r4]) (by simp[results,results250,go_sem,q0,H]) rfl ⟨by first|rfl|rw[ha],T.o⟩
 . have D:(r3 != 3)=true:=by simpa using hd
   go_wp2;exact bodyPost_ret (v:=.agg #[.bool false,Vi 0]) (by simp[results,results250,go_sem,q0,H]) rfl ⟨by first|rfl|rw[ha],Y.o⟩
 . go_wp2;exact bodyPost_ret (v:=.agg #[.bool false,Vi 0]) (by simp[results,results250,go_sem,q0,H]) rfl ⟨by first|rfl|rw[ha],Y.o⟩
theorem Nh(a:V8)(cap:Nat)(l:List Rd)(x y:Int)(hl:l.length<=1000)(w:V6)(Z:Rds w a l):
 Va 81 #[.slice a l.length cap,Vi x,Vi y] w (Rt w (.agg #[.bool (smp l x y).1,Vi (smp l x y).2])):=by
 have X:=Za (Z.lq (Zb w (.cells #[.bool false,Vi 0] 175)));have Q:Hd (Blk 175 (w.alloc (.cells #[.bool false,Vi 0] 175)) w.heap.size [.bool false,Vi 0]):=Za (Blk.new w _ _);have G:=Za (Zb w (.cells #[.bool false,Vi 0] 175));clear Z;obtain⟨r1,r2,r3,r4,b,hd,hs⟩:=SU l x y;have hs':Hd _:=Za hs;clear hs
 go_enter func81,ntmps81
 go_upto_region 1 with fail;generalize w.alloc (.cells #[.bool false,Vi 0] 175)=w0 at *;have HW:Hd (∀h,Bw w0 h->Blk 175 (h.alloc (.cells #[Vi r1,Vi r2,Vi r3,Vi r4] 155)) w.heap.size [.bool false,Vi 0]/\Blk 155 (h.alloc (.cells #[Vi r1,Vi r2,Vi r3,Vi r4] 155)) h.heap.size [Vi r1,Vi r2,Vi r3,Vi r4]/\Bw w (h.alloc (.cells #[Vi r1,Vi r2,Vi r3,Vi r4] 155))):=Za (fun h e=>⟨(Q.o.lq e).lq Vc,Blk.new h _ [Vi r1,Vi r2,Vi r3,Vi r4],Zc (Zc G.o e) Vc⟩)
 go_upto_region 2 with(first
  |(go_at_call 134;refine Sb (Jdt a cap l x y hl _ X.o) fun h e=>?_;rw[hd];have m:=Za (HW.o h e);clear e HW))
 generalize h.alloc (.cells #[Vi r1,Vi r2,Vi r3,Vi r4] 155)=w2 at *;generalize h.heap.size=E at *;have q0:=(m.o.1.cell (j:=0) rfl).1;have H:=(m.o.1.cell (j:=1) rfl).1;have T:=(m.o.1.cell (j:=0) rfl).2;have J:=(m.o.1.cell (j:=1) rfl).2;have K:=(m.o.2.1.cell (j:=2) rfl).1;have M:=(m.o.2.1.cell (j:=3) rfl).1;have h1:=(m.o.2.2.setCell (p:=⟨w.heap.size,0,none⟩) (by simp) (.bool true)).setCell (p:=⟨w.heap.size,1,none⟩) (by simp) (Vi r4);have h0:=(m.o.2.2.setCell (p:=⟨w.heap.size,0,none⟩) (by simp) (.bool false)).setCell (p:=⟨w.heap.size,1,none⟩) (by simp) (Vi 0);have R:=Za h1;have Y:=Za h0;clear h0 h1
 rcases hs'.o with⟨rfl,hc,ha⟩|⟨rfl,hc,ha⟩|⟨rfl,ha⟩
 . subst hc;go_wp2;exact bodyPost_ret (v:=.agg #[.bool true,Vi r4]) (by simp[results,results81,go_sem,q0,H]) rfl ⟨by first|rfl|rw[ha],R.o⟩
 . have N:(r3 != 3)=true:=by simpa using hc
   go_wp2;exact bodyPost_ret (v:=.agg #[.bool false,Vi 0]) (by simp[results,results81,go_sem,q0,H]) rfl ⟨by first|rfl|rw[ha],Y.o⟩
 . go_wp2;exact bodyPost_ret (v:=.agg #[.bool false,Vi 0]) (by simp[results,results81,go_sem,q0,H]) rfl ⟨by first|rfl|rw[ha],Y.o⟩
theorem Wa{x:Value}(y:B≠V)(h:Kc u B j x):(u.setCell (Ad V k) v).cell? (Ad B j)=some x:=(World.cell?_setCell_other _ _ _ _ (fun e=>y (congrArg Addr.block e).symm)).trans h
theorem Xv{a:V8}(y:∀g,a=some (Ad g 0)->l≠[]->g≠V)(h:Rds u a l):Rds (u.setCell (Ad V j) v) a l:=by
 rcases h with h|⟨g,h,hc⟩
 . exact .inl h
 . by_cases hn:l=[]
   . exact .inl hn
   . have:=y g h hn;exact .inr ⟨g,h,fun k hk=>⟨Wa this (hc k hk).1,Wa this (hc k hk).2.1,Wa this (hc k hk).2.2.1,Wa this (hc k hk).2.2.2⟩⟩
theorem Rds.lt{a:V8}(h:Rds u a l):∀g,a=some (Ad g 0)->l≠[]->g<u.heap.size:=by
 intro g y hl
 rcases h with h|⟨j,h,hc⟩
 . exact absurd h hl
 . subst y;cases h
   have h0:0<l.length:=by cases l with|nil=>exact absurd rfl hl|cons _ _=>simp
   exact World.block_lt_of_cell? u _ (hc 0 h0).1
def smL(l:List Rd)(x:Int):List Value:=[.bool (smp l x 0).1,Vi (smp l x 0).2,.bool (smp l x 1).1,Vi (smp l x 1).2,.bool (smp l x 2).1,Vi (smp l x 2).2]
theorem OV(B:Nat)(a:V8)(cap:Nat)(l:List Rd)(x:Int)(hl:l.length<=1000)(w:V6)(hc:Kc w B 62 (.slice a l.length cap))(N:Rds w a l):
 Va 282 #[Ve B 0,Vi x] w (Rt w (.agg (smL l x).toArray)):=by
 have K:Hd (Bw w ((w.alloc (.cells Qaz 229)).alloc (.cells Qaz 229))):=Za (Zc Vc Vc);have A:Hd (Blk 229 ((w.alloc (.cells Qaz 229)).alloc (.cells Qaz 229)) w.heap.size Qbn):=Za (Blk.lq (Blk.new w _ Qbn) Vc);have W:Hd (Blk 229 ((w.alloc (.cells Qaz 229)).alloc (.cells Qaz 229)) (w.heap.size+1) Qbn):=Za (by have:=Blk.new (w.alloc (.cells Qaz 229)) 229 Qbn;rw[World.size_alloc] at this;exact this);have P:=Za (N.lq K.o);have hd:=cell_later K.o hc;have hh:B<w.heap.size:=World.block_lt_of_cell? w _ hc;have Y:Hd (B≠w.heap.size+1):=Za (by omega);have M:Hd (∀g,a=some (Ad g 0)->l≠[]->g≠w.heap.size+1):=Za (fun g hg hn=>by have:=N.lt g hg hn;omega);have X:Hd (w.heap.size≠w.heap.size+1):=Za (by omega);have Q:Hd (w.heap.size<=w.heap.size+1):=Za (by omega);clear N hc hh
 go_enter func282,ntmps282
 go_upto_region 2 with fail;generalize ((w.alloc (.cells Qaz 229)).alloc (.cells Qaz 229))=w0 at *;generalize w.heap.size+1=I at *;go_wp2_with fail;refine wp_loop_rounds 4 ?_;rw[rounds_succ]
 go_wp2_with (first
  |(go_at_call 250;refine Sb (Ng B a cap l x 0 hl _ hd P.o) fun D h=>?_;have e:=Za (Zc K.o h);have H:=Za (A.o.lq h);have y:=Za (W.o.lq h);have Z:=Za (P.o.lq h);have ha:=cell_later h hd;have q0:=(y.o.cell (j:=0) rfl).1;have G:=(y.o.cell (j:=1) rfl).1;have R:=(y.o.cell (j:=0) rfl).2;have T:=(y.o.cell (j:=1) rfl).2;clear h P W A K hd))
 have Ho:Hd (Blk 229 ((D.setCell (Ad I 0) (.bool (smp l x 0).1)).setCell (Ad I 1) (Vi (smp l x 0).2)) I [.bool (smp l x 0).1,Vi (smp l x 0).2,.bool false,Vi 0,.bool false,Vi 0]):=Za ((y.o.set 0 (.bool (smp l x 0).1)).set 1 (Vi (smp l x 0).2));have Hp:=Za ((H.o.far (V:=I) X.o 0 (.bool (smp l x 0).1)).far (V:=I) X.o 1 (Vi (smp l x 0).2));have Hq:=Za ((e.o.setCell (p:=⟨I,0,none⟩) Q.o (.bool (smp l x 0).1)).setCell (p:=⟨I,1,none⟩) Q.o (Vi (smp l x 0).2));have C:((D.setCell (Ad I 0) (.bool (smp l x 0).1)).setCell (Ad I 1) (Vi (smp l x 0).2)).cell? (Ad B 62)=some (.slice a l.length cap):=Wa Y.o (Wa Y.o ha);have E:=Za (Xv M.o (Xv M.o Z.o (j:=0) (v:=.bool (smp l x 0).1)) (j:=1) (v:=Vi (smp l x 0).2));clear q0 G R T ha y H e Z;generalize (D.setCell (Ad I 0) (.bool (smp l x 0).1)).setCell (Ad I 1) (Vi (smp l x 0).2)=w1 at *;rw[rounds_succ]
 go_wp2_with (first
  |(go_at_call 250;refine Sb (Ng B a cap l x 1 hl _ C E.o) fun F h=>?_;have e:=Za (Zc Hq.o h);have H:=Za (Hp.o.lq h);have y:=Za (Ho.o.lq h);have Z:=Za (E.o.lq h);have ha:=cell_later h C;have q0:=(y.o.cell (j:=2) rfl).1;have G:=(y.o.cell (j:=3) rfl).1;have R:=(y.o.cell (j:=2) rfl).2;have T:=(y.o.cell (j:=3) rfl).2;clear h E Ho Hp Hq C))
 have Hr:Hd (Blk 229 ((F.setCell (Ad I 2) (.bool (smp l x 1).1)).setCell (Ad I 3) (Vi (smp l x 1).2)) I [.bool (smp l x 0).1,Vi (smp l x 0).2,.bool (smp l x 1).1,Vi (smp l x 1).2,.bool false,Vi 0]):=Za ((y.o.set 2 (.bool (smp l x 1).1)).set 3 (Vi (smp l x 1).2));have Hs:=Za ((H.o.far (V:=I) X.o 2 (.bool (smp l x 1).1)).far (V:=I) X.o 3 (Vi (smp l x 1).2));have Ht:=Za ((e.o.setCell (p:=⟨I,2,none⟩) Q.o (.bool (smp l x 1).1)).setCell (p:=⟨I,3,none⟩) Q.o (Vi (smp l x 1).2));have L:((F.setCell (Ad I 2) (.bool (smp l x 1).1)).setCell (Ad I 3) (Vi (smp l x 1).2)).cell? (Ad B 62)=some (.slice a l.length cap):=Wa Y.o (Wa Y.o ha);have O:=Za (Xv M.o (Xv M.o Z.o (j:=2) (v:=.bool (smp l x 1).1)) (j:=3) (v:=Vi (smp l x 1).2));clear q0 G R T ha y H e Z;generalize (F.setCell (Ad I 2) (.bool (smp l x 1).1)).setCell (Ad I 3) (Vi (smp l x 1).2)=w2 at *;rw[rounds_succ]
 go_wp2_with (first
  |(go_at_call 250;refine Sb (Ng B a cap l x 2 hl _ L O.o) fun U h=>?_;have e:=Za (Zc Ht.o h);have H:=Za (Hs.o.lq h);have y:=Za (Hr.o.lq h);have Z:=Za (O.o.lq h);have ha:=cell_later h L;have q0:=(y.o.cell (j:=4) rfl).1;have G:=(y.o.cell (j:=5) rfl).1;have R:=(y.o.cell (j:=4) rfl).2;have T:=(y.o.cell (j:=5) rfl).2;clear h O Hr Hs Ht L))
 have J:Hd (Blk 229 ((U.setCell (Ad I 4) (.bool (smp l x 2).1)).setCell (Ad I 5) (Vi (smp l x 2).2)) I [.bool (smp l x 0).1,Vi (smp l x 0).2,.bool (smp l x 1).1,Vi (smp l x 1).2,.bool (smp l x 2).1,Vi (smp l x 2).2]):=Za ((y.o.set 4 (.bool (smp l x 2).1)).set 5 (Vi (smp l x 2).2));have m:=Za ((H.o.far (V:=I) X.o 4 (.bool (smp l x 2).1)).far (V:=I) X.o 5 (Vi (smp l x 2).2));have Hu:=Za ((e.o.setCell (p:=⟨I,4,none⟩) Q.o (.bool (smp l x 2).1)).setCell (p:=⟨I,5,none⟩) Q.o (Vi (smp l x 2).2));have hi:((U.setCell (Ad I 4) (.bool (smp l x 2).1)).setCell (Ad I 5) (Vi (smp l x 2).2)).cell? (Ad B 62)=some (.slice a l.length cap):=Wa Y.o (Wa Y.o ha);clear q0 G R T ha y H e Z;generalize (U.setCell (Ad I 4) (.bool (smp l x 2).1)).setCell (Ad I 5) (Vi (smp l x 2).2)=w3 at *;rw[rounds_succ];have q0:=(J.o.cell (j:=0) rfl).1;have r0:=(m.o.cell (j:=0) rfl).1;have R:=(m.o.cell (j:=0) rfl).2;have G:=(J.o.cell (j:=1) rfl).1;have r1:=(m.o.cell (j:=1) rfl).1;have T:=(m.o.cell (j:=1) rfl).2;have q2:=(J.o.cell (j:=2) rfl).1;have r2:=(m.o.cell (j:=2) rfl).1;have f2:=(m.o.cell (j:=2) rfl).2;have q3:=(J.o.cell (j:=3) rfl).1;have r3:=(m.o.cell (j:=3) rfl).1;have f3:=(m.o.cell (j:=3) rfl).2;have q4:=(J.o.cell (j:=4) rfl).1;have r4:=(m.o.cell (j:=4) rfl).1;have f4:=(m.o.cell (j:=4) rfl).2;have q5:=(J.o.cell (j:=5) rfl).1;have r5:=(m.o.cell (j:=5) rfl).1;have f5:=(m.o.cell (j:=5) rfl).2;go_wp2_with fail;exact bodyPost_ret (v:=.agg (smL l x).toArray) (by simp[results,results282,go_sem,smL,r0,r1,r2,r3,r4,r5]) rfl ⟨rfl,Zo [.bool (smp l x 0).1,Vi (smp l x 0).2,.bool (smp l x 1).1,Vi (smp l x 1).2,.bool (smp l x 2).1,Vi (smp l x 2).2] 0 w3 Hu.o (b:=w.heap.size) (Nat.le_refl _)⟩
def svL:List Sv->List Value
 |[]=>[]
 |s::r=>Vi s.1::Vi s.2.1::.bool s.2.2::svL r
theorem DX{b:Nat}(h:b≠V):∀(y:List Value) (o:Nat) (u:V6),(u.setCells V o y).heap[b]?=u.heap[b]?
 |[],_,_=>rfl
 |v::r,o,u=>(DX h r (o+1) (u.setCell ⟨V,o,none⟩ v)).trans (heap_setCell_other u ⟨V,o,none⟩ b v h)
structure FR (K:Nat) (w0 u:V6) (B:Nat) (S:FS) (C:CR) (a:V8) (cap:Nat) (l:List Rd) (sv:Nat->List Sv) (G:Nat->Nat):Prop where
 blk:Blk 315 u B (frL S C (.slice a l.length cap))
 rds:Rds u a l
 low:Below K w0 u
 base:K<=B
 far:∀g,a=some (Ad g 0)->l≠[]->g≠B
 servo:∀i,i<2->S.sp i=some (Ad (G i) 0)/\S.sn i=(sv i).length/\Blk 169 u (G i) (svL (sv i))/\K<=G i/\G i≠B/\∀g,a=some (Ad g 0)->l≠[]->g≠G i
 two:G 0≠G 1
 many:l.length<=1000
 oth:∀b,b<w0.heap.size->b≠B->b≠G 0->b≠G 1->u.heap[b]?=w0.heap[b]?
section
variable {K : Nat} {w0 u u' : World} {B : Nat} {S : FS} {C : CR} {a : Option Addr} {cap : Nat} {l : List Rd} {sv : Nat -> List Sv} {G : Nat -> Nat}
theorem FR.lq(h:FR K w0 u B S C a cap l sv G)(y:Bw u u'):FR K w0 u' B S C a cap l sv G:=
 ⟨h.blk.lq y,h.rds.lq y,h.low.trans (y.mono (Nat.le_trans h.base (Nat.le_of_lt h.blk.lt))),h.base,h.far,fun i hi=>⟨(h.servo i hi).1,(h.servo i hi).2.1,(h.servo i hi).2.2.1.lq y,(h.servo i hi).2.2.2⟩,h.two,h.many,fun b h1 h2 h3 h4=>(y.block b (Nat.lt_of_lt_of_le h1 h.low.size)).trans (h.oth b h1 h2 h3 h4)⟩
theorem FR.said(h:FR K w0 u B S C a cap l sv G):Kc u B 62 (.slice a l.length cap):=(h.blk.cell (Jld S C _)).1
theorem FR.rebase(h:FR K w0 u B S C a cap l sv G):FR K u u B S C a cap l sv G:=⟨h.blk,h.rds,Below.refl _ _,h.base,h.far,h.servo,h.two,h.many,fun _ _ _ _ _=>rfl⟩
theorem FR.lt(h:FR K w0 u B S C a cap l sv G):B<u.heap.size:=h.blk.lt
theorem Xw(y:∀g,a=some (Ad g 0)->l≠[]->g≠V):∀(j:List Value) (o:Nat) (u:V6),Rds u a l->Rds (u.setCells V o j) a l
 |[],_,_,h=>h
 |v::r,o,u,h=>Xw y r (o+1) (u.setCell ⟨V,o,none⟩ v) (Xv y h)
theorem FR.put(h:FR K w0 u B S C a cap l sv G)(S':FS)(y:List Value)(o:Nat)(j:B8 (frL S C (.slice a l.length cap)) o y=frL S' C (.slice a l.length cap))(hs:S'.sp=S.sp/\S'.sn=S.sn):FR K w0 (u.setCells B o y) B S' C a cap l sv G:=
 ⟨j▸Blk.setCells y o u _ h.blk,Xw h.far y o u h.rds,Zo y o u h.low h.base,h.base,h.far,fun i hi=>⟨by rw[hs.1];exact(h.servo i hi).1,by rw[hs.2];exact(h.servo i hi).2.1,Blk.farCells (h.servo i hi).2.2.2.2.1 y o u (h.servo i hi).2.2.1,(h.servo i hi).2.2.2⟩,h.two,h.many,fun b h1 h2 h3 h4=>(DX h2 y o u).trans (h.oth b h1 h2 h3 h4)⟩
end
def tS(l:List Rd)(x:Int)(k:Nat):Bool:=if k=0 then(smp l x 0).1 else if k=1 then(smp l x 1).1 else(smp l x 2).1
def sS(l:List Rd)(x:Int)(k:Nat):Int:=if k=0 then(smp l x 0).2 else if k=1 then(smp l x 1).2 else(smp l x 2).2
theorem Jo0(l:List Rd)(x:Int):smL l x=[.bool (tS l x 0),Vi (sS l x 0),.bool (tS l x 1),Vi (sS l x 1),.bool (tS l x 2),Vi (sS l x 2)]:=rfl
def vbk(k:Bk)(m c:Int)(t:Nat->Bool)(s:Nat->Int):Bk:=⟨nbI t k.o s k.b (AO t k.o s k.l) m,noB t k.o s k.b (AO t k.o s k.l) m c,AO t k.o s k.l⟩
def AI(l:List Sv):Nat->Int
 |0=>0
 |k+1=>if(A0 l k).2.2 then AI l k else AI l k+1
theorem CC(l:List Sv):∀k:Nat,0<=AI l k/\AI l k<=k
 |0=>by simp[AI]
 |k+1=>by have:=CC l k;simp only[AI];split<;>omega
theorem NK(l:List Sv)(a:V8)(cap:Nat)(hl:l.length<=1000)(w:V6)(y:VLs w a l):
 Va 167 #[.slice a l.length cap] w (Rt w (Vi (AI l l.length))):=by
 have H:=Za y;clear y
 go_enter func167,ntmps167
 go_wp2
 go_loopw [3,8] (fun s i wr=>∃k:Nat,k<=l.length/\i=Vi k/\s=Vi (AI l k)/\Bw w wr) (fun _ i _=>l.length-(intOf i).toNat)
 case atStart=>exact⟨0,Nat.zero_le _,rfl,rfl,Below.refl _ _⟩
 case round=>
  obtain⟨k,hk,rfl,rfl,h⟩:=hrel;have ha:=CC l k
  by_cases hlt:k<l.length
  . obtain⟨Z,Y,rfl,d0,d1,d2⟩:=(H.o.lq h).at hlt;have j:=Za (show AI l (k+1)=if(A0 l k).2.2 then AI l k else AI l k+1 from rfl);have m:=Za h
    have X:(0:Int)<=(k:Int):=by omega
    have Q:(k:Int)<(l.length:Int):=by omega
    clear h;generalize AI l k=s at *;generalize (A0 l k).1=i at *;generalize (A0 l k).2.1=b at *;generalize (A0 l k).2.2=o at*
    cases o
    . go_wp2;go_roundw
      case rel=>exact⟨k+1,by omega,by go_num,by rw[j.o];rfl,Zc m.o Vc⟩
      case measure=>simp[intOf];omega
    . go_wp2;go_roundw
      case rel=>exact⟨k+1,by omega,by go_num,by rw[j.o];rfl,Zc m.o Vc⟩
      case measure=>simp[intOf];omega
  . have e:k=l.length:=by omega
    subst e;go_wp2;go_ret;exact⟨rfl,h⟩
theorem Mu(f i k:Int)(w:V6)(h:0<=f/\f<=1000:=by omega)(hi:0<=i/\i<=10:=by omega)(hk:0<=k/\k<=1000:=by omega):
 Va 202 #[Vi f,Vi i,Vi k] w (Re w (Vi (f+4*i+k))):=by
 obtain⟨y,j⟩:=h;obtain⟨m,e⟩:=hi;obtain⟨H,Z⟩:=hk
 go_enter func202,ntmps202
 go_wp2;go_ret;exact⟨rfl,rfl⟩
theorem XR(i b:Int)(o:Bool)(w:V6):
 Va 295 #[.agg #[Vi i,Vi b,.bool o]] w (Rt w (Vi (if o then 0 else 3))):=by
 cases o
 . go_enter func295,ntmps295
   go_wp2;go_ret;exact⟨rfl,Zb _ _⟩
 . go_enter func295,ntmps295
   go_wp2;go_ret;exact⟨rfl,Zb _ _⟩
theorem NL(a:Value):∀(y:List Value) (h:List Value) (o:Nat),B8 (a::h) (o+1) y=a::B8 h o y
 |[],_,_=>rfl
 |v::r,h,o=>by
  show B8 ((a::h).set (o+1) v) (o+1+1) r=a::B8 (h.set o v) (o+1) r
  rw[List.set_cons_succ];exact NL a r (h.set o v) (o+1)
theorem Wy:∀L:List Sv,(svL L).length=L.length*3
 |[]=>rfl
 |s::r=>by simp only[svL,List.length_cons,Wy r];omega
theorem K5:∀(L:List Sv) (k:Nat),k<L.length->((svL L).drop (k*3)).take 3=[Vi (A0 L k).1,Vi (A0 L k).2.1,.bool (A0 L k).2.2]
 |[],_,h=>by simp at h
 |s::r,0,_=>rfl
 |s::r,k+1,h=>by
  have:=K5 r k (by simpa using h);rw[show(k+1)*3=k*3+1+1+1 by omega]
  simpa[svL,A0] using this
theorem Ja6(s:Sv):∀(L:List Sv) (k:Nat),k<L.length->B8 (svL L) (k*3) [Vi s.1,Vi s.2.1,.bool s.2.2]=svL (L.set k s)
 |[],_,h=>by simp at h
 |x::r,0,_=>rfl
 |x::r,k+1,h=>by
  have:=Ja6 s r k (by simpa using h);rw[show(k+1)*3=k*3+1+1+1 by omega];simp only[svL,NL,this,List.set_cons_succ]
theorem Ja7{L:List Sv}(h:Blk t u g (svL L)):VLs u (some (Ad g 0)) L:=by
 refine .inr ⟨g,0,rfl,fun k hk=>?_⟩;have r:=h.sub (k*3) 3;rw[K5 L k hk] at r;have r0:=r 0 _ rfl;have r1:=r 1 _ rfl;have r2:=r 2 _ rfl;simp only[Nat.zero_add];exact⟨r0,r1,r2⟩
section
variable {K : Nat} {w0 u : World} {B : Nat} {S : FS} {C : CR} {a : Option Addr} {cap : Nat} {l : List Rd} {sv : Nat -> List Sv} {G : Nat -> Nat}
theorem FR.vls(h:FR K w0 u B S C a cap l sv G)(hi:i<2):VLs u (S.sp i) (sv i):=by
 have:=h.servo i hi;rw[this.1];exact Ja7 this.2.2.1
theorem FR.putServo(h:FR K w0 u B S C a cap l sv G)(hi:i<2)(hk:k<(sv i).length)(s:Sv):FR K w0 (u.setCells (G i) (k*3) [Vi s.1,Vi s.2.1,.bool s.2.2]) B S C a cap l (upd sv i ((sv i).set k s)) G:=by
 have hs:=h.servo i hi;refine⟨Blk.farCells hs.2.2.2.2.1.symm _ _ _ h.blk,Xw hs.2.2.2.2.2 _ _ _ h.rds,Zo _ _ _ h.low hs.2.2.2.1,h.base,h.far,fun j y=>?_,h.two,h.many,fun b h1 h2 h3 h4=>(DX (show b≠G i by rcases Qtw i with rfl|rfl<;>assumption) _ _ _).trans (h.oth b h1 h2 h3 h4)⟩;have ha:=h.servo j y
 by_cases e:j=i
 . subst e;rw[Zs];exact⟨ha.1,by rw[List.length_set];exact ha.2.1,Ja6 s (sv j) k hk▸Blk.setCells _ _ _ _ ha.2.2.1,ha.2.2.2⟩
 . rw[Yv sv _ e]
   have hG:G j≠G i:=by
    have:=h.two
    rcases(show(j=0/\i=1)\/(j=1/\i=0) by omega) with⟨rfl,rfl⟩|⟨rfl,rfl⟩
    . exact this
    . exact this.symm
   exact⟨ha.1,ha.2.1,Blk.farCells hG _ _ _ ha.2.2.1,ha.2.2.2⟩
end
def wv(C:CR)(l:List Rd)(i k:Nat)(s:Sv):Sv:=
 (wI (C.a i 7) (C.a i 10) s.1 s.2.1 (smp l (16+4*(i:Int)+(k:Int)) 3).2 s.2.2 (smp l (16+4*(i:Int)+(k:Int)) 3).1,wB (C.a i 7) s.1 s.2.1 (smp l (16+4*(i:Int)+(k:Int)) 3).2 s.2.2 (smp l (16+4*(i:Int)+(k:Int)) 3).1,wO (C.a i 7) (C.a i 10) s.1 s.2.1 (smp l (16+4*(i:Int)+(k:Int)) 3).2 s.2.2 (smp l (16+4*(i:Int)+(k:Int)) 3).1)
def wml(C:CR)(l:List Rd)(i:Nat)(L:List Sv)(k:Nat):List Sv:=(List.range L.length).map fun j=>if j<k then wv C l i j (A0 L j) else A0 L j
theorem Uk(C:CR)(l:List Rd)(i:Nat)(L:List Sv)(k:Nat):(wml C l i L k).length=L.length:=by simp[wml]
theorem Jhi(C:CR)(l:List Rd)(i:Nat)(L:List Sv):wml C l i L 0=L:=by
 apply List.ext_getElem
 . simp[wml]
 . intro j h1 h2
   simp[wml,A0,h2]
theorem Jo2(C:CR)(l:List Rd)(i:Nat)(L:List Sv)(hk:k<L.length):A0 (wml C l i L k) k=A0 L k:=by
 simp[wml,A0,hk]
theorem Jhj(C:CR)(l:List Rd)(i:Nat)(L:List Sv):(wml C l i L k).set k (wv C l i k (A0 L k))=wml C l i L (k+1):=by
 apply List.ext_getElem
 . simp[wml]
 . intro j h1 h2;simp only[wml,List.length_set,List.length_map,List.length_range] at h1;rw[List.getElem_set]
   by_cases e:k=j
   . subst e
     simp[wml]
   . rw[if_neg e];simp only[wml,List.getElem_map,List.getElem_range]
     by_cases h3:j<k
     . rw[if_pos h3,if_pos (by omega)]
     . rw[if_neg h3,if_neg (by omega)]
theorem B9.lq(h:B9 B v l u)(y:Bw u u'):B9 B v l u':=by
 refine⟨⟨h.1.1,?_⟩,h.2⟩
 rcases h.1.2 with j|⟨g,cap,ha,e,h1,h2,h3⟩
 . exact .inl j
 . exact .inr ⟨g,cap,ha,e,h1,(y.block g (Array.getElem?_eq_some_iff.1 h2).1).trans h2,h3⟩
theorem VC:∀(l:List Rd) (n:Nat) (r:Rd),n<l.length->A9 (l.set n r)=((((A9 l).set (n*4) (Vi r.1)).set (n*4+1) (Vi r.2.1)).set (n*4+2) (Vi r.2.2.1)).set (n*4+3) (Vi r.2.2.2)
 |[],n,r,h=>by simp at h
 |y::t,0,r,_=>by simp[A9,AG]
 |y::t,n+1,r,h=>by
  have j:=VC t n r (by simpa using h)
  show AG y++A9 (t.set n r)=_
  rw[j]
  show _=((((AG y++A9 t).set ((n+1)*4) _).set ((n+1)*4+1) _).set ((n+1)*4+2) _).set ((n+1)*4+3) _
  have e:(n+1)*4=n*4+1+1+1+1:=by omega
  rw[e]
  rfl
theorem Mx{W:V6}{o:Nat}{cur:Array Value}{fr:Nat×Nat}(v:Value)(h:W.heap[g]?=some (.cells cur t fr)):(W.setCell (Ad g o) v).heap[g]?=some (.cells (cur.setIfInBounds o v) t fr):=by
 obtain⟨ha,hk⟩:=Array.getElem?_eq_some_iff.1 h
 show(W.heap.modify g _)[g]?=_
 rw[Array.getElem?_eq_getElem (by rw[Array.size_modify];exact ha),Array.getElem_modify_self,hk]
 rfl
theorem B9.set{cp:Nat}{r1 r2 r3 r4:Int}(h:B9 B (Vf g 0 l.length cp) l u)(hn:n<l.length):
 B9 B (Vf g 0 l.length cp) (l.set n (r1,r2,r3,r4)) ((((u.setCell (Ad g (n*4)) (Vi r1)).setCell (Ad g (n*4+1)) (Vi r2)).setCell (Ad g (n*4+2)) (Vi r3)).setCell (Ad g (n*4+3)) (Vi r4)):=by
 rcases h.1.2 with⟨y,_⟩|⟨m,cap,ha,e,h1,h2,h3,h4,h5,h6⟩
 . simp at y
 . simp only[Value.slice.injEq,Option.some.injEq,Addr.mk.injEq,and_true,true_and] at e;obtain⟨rfl,rfl⟩:=e;have j:=Mx (o:=n*4+3) (Vi r4) (Mx (o:=n*4+2) (Vi r3) (Mx (o:=n*4+1) (Vi r2) (Mx (o:=n*4) (Vi r1) h2)));refine⟨⟨by rw[Xo,List.length_set],.inr ⟨g,cp,_,by rw[List.length_set],h1,j,by rw[List.length_set];exact h3,h4,by simp[h5],?_⟩⟩,?_⟩
   . rw[List.length_set,VC l n _ hn];simp only[Array.toList_setIfInBounds];rw[List.take_set,List.take_set,List.take_set,List.take_set,h6]
   . constructor
     . intro h;simp at h
     . intro h;have:=congrArg List.length h;simp at this;subst this;simp at hn
theorem FQ(h:∀k,k<l.length->Q4 w g (k*4) (rat l k)){m:Nat}(Y:n+m<=l.length):
 ∀j u,(A9 ((l.drop n).take m))[j]?=some u->w.cell? ((⟨g,n*4,none⟩:Addr).add j)=some u:=by
 intro j u y
 have H:((l.drop n).take m).length=m:=by simp;omega
 have hc:j<m*4:=by
  have:=(List.getElem?_eq_some_iff.1 y).1;rw[Xo,H] at this;exact this
 rw[DQ _ _ (by rw[H];exact hc)] at y
 have Z:rat ((l.drop n).take m) (j/4)=rat l (n+j/4):=by
  have h1:j/4<m:=by omega
  rw[EZ (by rw[H];exact h1),EZ (by omega)]
  simp
 rw[Z] at y;obtain⟨c0,c1,c2,c3⟩:=h (n+j/4) (by omega)
 have ha:(⟨g,n*4,none⟩:Addr).add j=⟨g,(n+j/4)*4+j%4,none⟩:=by
  rw[Addr.add_lit,show n*4+j=(n+j/4)*4+j%4 by omega]
 rw[ha]
 rcases(show j%4=0\/j%4=1\/j%4=2\/j%4=3 by omega) with e|e|e|e<;>rw[e] at y|-<;>simp[AG] at y<;>subst y<;>assumption
theorem Nq(l:List Rd):∀u∈A9 l,u.oneCell'=true:=by
 intro u y;obtain⟨r,_,h⟩:=List.mem_flatMap.1 y;exact Wm r u h
theorem CI(B:Nat)(w:V6):w.ownsRow B 155 4 (.slice none 0 0) 0 []:=⟨rfl,.inl ⟨rfl,rfl⟩⟩
theorem Zjn(l:List Rd)(n:Nat):(l.drop n).take (l.length-n)=l.drop n:=by
 rw[List.take_of_length_le];simp
end Go.Proofs.YtnepnnkdgejheaaGreatDoor
