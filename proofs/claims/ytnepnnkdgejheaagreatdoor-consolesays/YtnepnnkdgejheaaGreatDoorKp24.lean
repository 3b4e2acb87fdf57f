import Derived.Laws.AppendOwnNone
import Derived.Test.YtnepnnkdgejheaaGreatDoorKp21
set_option maxRecDepth 100000
set_option maxHeartbeats 20000000
namespace Go.Proofs.YtnepnnkdgejheaaGreatDoor
open Go.RowKit Plain Tryz
variable {B cp g n:Nat}{l:List Rd}{u w:V6}
def Jje(w u:V6)(V:Nat)(a:V8)(h:Nat)(l:List Rd)(A B C E:Int):Prop:=AC u V A B C E/\B9 w.heap.size (.slice a l.length h) l u/\Bw w u/\Rds u a l
theorem Jje.lq{u':V6}{V:Nat}{a:V8}{A B C E:Int}(h:Jje w u V a cp l A B C E)(y:Bw u u'):Jje w u' V a cp l A B C E:=
 ⟨h.1.lq y,h.2.1.lq y,h.2.2.1.trans (y.mono h.2.2.1.size),h.2.2.2.lq y⟩
theorem L6{L:List Rd}{r:Rd}(h:∀i,i<n->rlt (rat L i) r=true)(h2:rlt (rat L n) r=true):∀i,i<n+1->rlt (rat L i) r=true:=fun i hi=>by
 rcases Nat.lt_or_ge i n with y|y
 . exact h i y
 . rw[show i=n by omega];exact h2
theorem Rds.q4{k:Nat}(h:Rds w (some (Ad g 0)) l)(hk:k<l.length):Q4 w g (k*4) (rat l k):=by
 obtain⟨j,e,y⟩:=h.at hk;simp only[Option.some.injEq,Addr.mk.injEq,and_true] at e;subst e;exact y
theorem B9.shape(h:B9 B (Vf g 0 l.length cp) l u):l.length<=cp/\B<=g/\∃ha,u.heap[g]?=some (.cells ha 155 (0,0)):=by
 rcases h.1.2 with⟨y,_⟩|⟨j,cap,ha,e,h1,h2,h3,_⟩
 . simp at y
 . simp only[Value.slice.injEq,Option.some.injEq,Addr.mk.injEq,and_true,true_and] at e;obtain⟨rfl,rfl⟩:=e;exact⟨h3,h1,ha,h2⟩
theorem B9.cap_le(h:B9 B (Vf g 0 l.length cp) l u):l.length<=cp:=h.shape.1
theorem B9.base(h:B9 B (Vf g 0 l.length cp) l u):B<=g:=h.shape.2.1
theorem B9.thaw(h:B9 B (Vf g 0 l.length cp) l u)(_hn:n<l.length):u.frozen? (Ad g (n*4))=false/\u.frozen? (Ad g (n*4+1))=false/\u.frozen? (Ad g (n*4+2))=false/\u.frozen? (Ad g (n*4+3))=false:=by
 obtain⟨_,_,ha,y⟩:=h.shape
 refine⟨?_,?_,?_,?_⟩<;>simp[World.frozen?,y]
theorem Ma{v:V6}(h:Bw w u)(k:Bw u v):Bw w v:=h.trans (k.mono h.size)
theorem VD{w0:V6}(y:Below B w0 w)(h:B<=g)(j m e H:Nat)(p q r s:Value):
 Below B w0 ((((w.setCell (Ad g j) p).setCell (Ad g m) q).setCell (Ad g e) r).setCell (Ad g H) s):=
 (((y.setCell h _).setCell h _).setCell h _).setCell h _
theorem Jet{a:V8}(h:B9 B (.slice a 0 cp) [] u):a=none/\cp=0:=by
 have:=h.2.2 rfl
 simpa using this
theorem L7{a:V8}(h:B9 B (.slice a l.length cp) l u)(hl:0<l.length):∃g,a=some (Ad g 0):=by
 rcases h.1.2 with⟨_,h0⟩|⟨y,cap,ha,e,_⟩
 . omega
 . simp only[Value.slice.injEq] at e;exact⟨y,e.1⟩
theorem PX(a:V8)(cap:Nat)(ws:V9)(hl:ws.length<=64)(w:V6)(hw:Wds w a ws):
 Va 75 #[.slice a ws.length cap] w fun e w'=>(∃v,e=.returned (.tuple #[v,Vi (BM A2 ws)])/\B9 w.heap.size v (gat A2 ws) w')/\Bw w w':=by
 have HW:=Za hw;clear hw;obtain⟨Y,hi,R,T,J⟩:=info_parts IC
 go_enter func75,ntmps75
 go_wp2
 go_loopw [4,5,6] (fun p v i wr=>∃k:Nat,k<=ws.length/\p=Vi (BM A2 (ws.take k))/\i=Vi k/\B9 w.heap.size v (gat A2 (ws.take k)) wr/\Bw w wr) (fun _ _ i _=>ws.length-(intOf i).toNat)
 case atStart=>exact⟨0,Nat.zero_le _,rfl,rfl,⟨⟨rfl,.inl ⟨rfl,rfl⟩⟩,by simp[gat]⟩,Below.refl _ _⟩
 case round=>
  obtain⟨k,hk,rfl,rfl,hh,hb⟩:=hrel;have hJ:BM A2 (ws.take k)<=64:=Nat.le_trans (Jag A2 (ws.take k)) (Nat.le_trans (List.length_take_le k ws) (by omega));have HO:=Za hh;have HB:=Za hb
  by_cases hlt:k<ws.length
  . obtain⟨b,off,rfl,hy,hG,hH⟩:=(HW.o.lq hb).at hlt;have hA:Hd (ws.take (k+1)=ws.take k++[at0 ws k]):=Ziu ws 0 k hlt;have hB:=OR _ hG hH;clear hh hb
    by_cases ho:AE (at0 ws k) 32%2=1
    . rw[decide_eq_true ho] at hB;have hu:=LQ _ hG hH;have HR:=Za (SM ho);have Hi:Hd ((BM A2 (ws.take (k+1)):Int)=(BM A2 (ws.take k):Int)):=Za (by rw[hA.o,Mg,HR.o];simp);have K:Hd (gat A2 (ws.take (k+1))=ins (BO (at0 ws k),CN (at0 ws k),DR (at0 ws k),CY (at0 ws k)) (gat A2 (ws.take k))):=Za (by rw[hA.o,Ue,HR.o])
      unfold DS at hu
      generalize BO (at0 ws k)=A at *;generalize CN (at0 ws k)=B at *;generalize DR (at0 ws k)=C at *;generalize CY (at0 ws k)=E at *;generalize at0 ws k=x at *;clear ho;obtain⟨L,hL⟩:∃L,L=gat A2 (ws.take k):=⟨_,rfl⟩;rw[<-hL] at HO K
      have hM:L.length<=64:=by rw[hL];exact Nat.le_trans (Nt A2 _) (Nat.le_trans (List.length_take_le k ws) (by omega))
      clear hL;obtain⟨aa,X,rfl,hC⟩:=HO.o.rds;have Hk:=Za hC;clear hC
      go_wp2_with (first
       |(go_at_call 131;refine Sm (hB _) ?_)
       |(go_at_call 132;refine Sb (hu _) fun w1 hF=>?_))
      have y:Hd (Jje w (w1.alloc (.cells #[Vi A,Vi B,Vi C,Vi E] 155)) w1.heap.size aa X L A B C E):=
       Za ⟨AC.new w1 A B C E 155,(HO.o.lq hF).lq Vc,Zc (Zc HB.o hF) Vc,(Hk.o.lq hF).lq Vc⟩
      generalize w1.alloc (.cells #[Vi A,Vi B,Vi C,Vi E] 155)=w2 at *;generalize w1.heap.size=V at *;clear hF HO Hk HB hy hB hu HR hA
      go_loopw [8] (fun j u=>∃n:Nat,n<=L.length/\j=Vi n/\Hd (∀i,i<n->rlt (rat L i) (A,B,C,E)=true)/\Jje w u V aa X L A B C E) (fun j _=>L.length-(intOf j).toNat)
      case atStart=>exact⟨0,Nat.zero_le _,rfl,Za (fun i hi=>absurd hi (by omega)),y.o⟩
      case round=>
       obtain⟨n,hn,rfl,M,hS⟩:=hrel;rename World=>wi;have y:=Za hS;clear hS;obtain⟨q0,q1,q2,q3,f0,f1,f2,f3,_⟩:=y.o.1
       by_cases hnl:n<L.length
       . obtain⟨g,rfl⟩:=L7 y.o.2.1 (by omega);obtain⟨c0,c1,c2,c3⟩:=y.o.2.2.2.q4 hnl
         have hK:(n:Int)<(L.length:Int):=by omega
         by_cases h1:(rat L n).1<A
         . have HV:=Za (L6 M.o (by rw[Wg];exact .inl h1));generalize (rat L n).1=r1 at *;generalize (rat L n).2.1=r2 at *;clear M;go_wp2_with fail;go_quiet (fail);go_wp2;go_roundw
           case rel=>exact⟨n+1,by omega,by go_num,HV,y.o.lq (below_drewN (Below.refl _ _) _)⟩
           case measure=>simp[intOf];omega
         . have d1:decide ((rat L n).1<A)=false:=decide_eq_false h1
           by_cases h2:(rat L n).1=A
           . have P:((rat L n).1==A)=true:=by simpa using h2
             by_cases h3:(rat L n).2.1<B
             . have HV:=Za (L6 M.o (by rw[Wg];exact .inr ⟨h2,h3⟩));clear h1 h2;generalize (rat L n).1=r1 at *;generalize (rat L n).2.1=r2 at *;clear M;go_wp2_with fail;go_quiet (fail);go_wp2;go_roundw
               case rel=>exact⟨n+1,by omega,by go_num,HV,y.o.lq (below_drewN (Below.refl _ _) _)⟩
               case measure=>simp[intOf];omega
             . have d2:decide ((rat L n).2.1<B)=false:=decide_eq_false h3;have H:=Za (VY (A,B,C,E) L n hn M.o (.inr (by rw[BZ];intro h;rcases h with h|h;exact h1 h;exact h3 h.2)))
               by_cases h4:(rat L n).2.1=B
               . have e2:((rat L n).2.1==B)=true:=by simpa using h4
                 have N:Hd (req (rat L n) (A,B,C,E)=true):=Za (by rw[DC];exact⟨h2,h4⟩);clear h1 h2 h3 h4;go_wp2_with fail;go_quiet (fail);rename Nat=>nq;have y:=Za (y.o.lq (below_drewN (Below.refl _ wi) nq));generalize wi.drewN nq=G at *;clear nq;obtain⟨q0,q1,q2,q3,f0,f1,f2,f3,_⟩:=y.o.1;obtain⟨c0,c1,c2,c3⟩:=y.o.2.2.2.q4 hnl;go_wp2_with fail;go_quiet (fail);rename Nat=>nq;have y:=Za (y.o.lq (below_drewN (Below.refl _ G) nq));generalize G.drewN nq=wz at *;clear nq;obtain⟨q0,q1,q2,q3,f0,f1,f2,f3,_⟩:=y.o.1;have Z:=Za (Jaf (A,B,C,E) L (by rw[H.o];exact hnl) (by rw[H.o];exact N.o));rw[H.o] at Z;obtain⟨z0,z1,z2,z3⟩:=y.o.2.1.thaw hnl;obtain⟨c0,c1,c2,c3⟩:=y.o.2.2.2.q4 hnl;clear M H N;go_wp2;go_roundw
                 case rel=>
                  refine⟨k+1,by omega,by rw[Hi.o],by go_num,?_,?_⟩
                  . rw[K.o,Z.o];have h:=y.o.2.1.set (r1:=A) (r2:=B) (r3:=C) (r4:=E) hnl;exact h
                  . exact VD y.o.2.2.1 y.o.2.1.base _ _ _ _ _ _ _ _
                 case measure=>simp[intOf];omega
               . have e2:((rat L n).2.1==B)=false:=by simpa using h4
                 have N:Hd (pos (A,B,C,E) L=L.length\/req (rat L (pos (A,B,C,E) L)) (A,B,C,E)=false):=Za (.inr (by rw[H.o,EW];exact fun h=>h4 h.2));clear h1 h2 h3 h4;go_wp2_with fail;go_quiet (fail);rename Nat=>nq;have y:=Za (y.o.lq (below_drewN (Below.refl _ wi) nq));generalize wi.drewN nq=G at *;clear nq;obtain⟨q0,q1,q2,q3,f0,f1,f2,f3,_⟩:=y.o.1;obtain⟨c0,c1,c2,c3⟩:=y.o.2.2.2.q4 hnl;go_wp2_with fail;go_quiet (fail);rename Nat=>nq;have y:=Za (y.o.lq (below_drewN (Below.refl _ G) nq));generalize G.drewN nq=wz at *;clear nq;obtain⟨q0,q1,q2,q3,f0,f1,f2,f3,_⟩:=y.o.1;have Z:=Za (I9 (A,B,C,E) L N.o);rw[H.o] at Z;have hI:=y.o.2.1.cap_le;have Hh:=Za (fun u (hb:Bw wz u) m1 m2 hm=>FQ (w:=u) (g:=g) (l:=L) (n:=m1) (m:=m2) (fun j hj=>(y.o.2.2.2.q4 hj).lq hb) hm);clear M H N
                 have hD:(n:Int)<=(X:Int):=by omega
                 go_wp2_with (first
                  |(at_builtin;refine wpList_append_own _ rfl _ _ 159 rfl wz.heap.size 155 Y (.agg #[.int .i64 0,.int .i64 0,.int .i64 0,.int .i64 0]) 4 32 Y9 hi R T J rfl (by decide) _ _ _ rfl Q.o ⟨g,n*4,none⟩ (L.length-n) (X-n) (A9 ((L.drop n).take (L.length-n))) rfl (by rw[Xo];first|(simp;done)|(simp;omega)) (Hh.o w4 OL2.o n (L.length-n) (by omega)) (Nq _) (by unfold maxLen;omega) (by omega) OL2.o.size ?_;intro v3 w5 D F hv;have OL3:=Za (OL2.o.grown F OL2.o.size (fun k e=>(Q.o.lt k e).1));have I:=Za D;clear F hv D)
                  |(at_builtin;refine wpList_append_own _ rfl _ _ 159 rfl wz.heap.size 155 Y (.agg #[.int .i64 0,.int .i64 0,.int .i64 0,.int .i64 0]) 4 32 Y9 hi R T J rfl (by decide) _ _ _ rfl (O.o.alloc _) ⟨U.heap.size,0,none⟩ 1 1 (AG (A,B,C,E)) rfl rfl (Uh _ (A,B,C,E)) (Wm _) (by unfold maxLen;omega) (by omega) (by have:=OL1.o.size;simp;omega) ?_;intro v2 w4 hc hd ht;have OL2:=Za ((OL1.o.alloc OL1.o.size (.cells #[.int .i64 A,.int .i64 B,.int .i64 C,.int .i64 E] 155)).grown hd (by have:=OL1.o.size;simp;omega) (fun k e=>(O.o.lt k e).1));have Q:=Za hc;clear hd ht hc)
                  |(at_builtin;refine wpList_append_own _ rfl _ _ 159 rfl wz.heap.size 155 Y (.agg #[.int .i64 0,.int .i64 0,.int .i64 0,.int .i64 0]) 4 32 Y9 hi R T J rfl (by decide) _ _ _ rfl (CI _ _) ⟨g,0,none⟩ n X (A9 ((L.drop 0).take n)) rfl (by rw[Xo];first|(simp;done)|(simp;omega)) (Hh.o wz (Below.refl _ _) 0 n (by omega)) (Nq _) (by unfold maxLen;omega) (by omega) (Nat.le_refl _) ?_;intro v1 U W hs hx;have ha:wz.grownBy U none:=hs;have OL1:=Za ((Below.refl wz.heap.size wz).grown ha (Nat.le_refl _) (fun k e=>by cases e));have O:=Za W;obtain⟨p0,p1,p2,p3,_⟩:=(y.o.1.lq OL1.o);clear hs ha hx W))
                 go_roundw
                 case rel=>
                  refine⟨k+1,by omega,by rw[Hi.o],by go_num,⟨?_,?_⟩,Ma (y.o.2.2.1) OL3.o⟩
                  . rw[K.o,Z.o];have h:=ownsRow_base_a I.o y.o.2.2.1.size;simp only[List.drop_zero,Zjn,List.nil_append] at h
                    have P:A9 (L.take n++(A,B,C,E)::L.drop n)=A9 (L.take n)++AG (A,B,C,E)++A9 (L.drop n):=by simp[A9]
                    have e2:(L.take n++(A,B,C,E)::L.drop n).length=0+n+1+(L.length-n):=by simp;omega
                    rw[P,e2];exact h
                  . rw[K.o,Z.o]
                    constructor
                    . intro h
                      rcases I.o.2 with⟨_,h0⟩|⟨_,_,_,h1,_⟩
                      . omega
                      . rw[h1] at h;simp at h
                    . intro h;simp at h
                 case measure=>simp[intOf];omega
           . have P:((rat L n).1==A)=false:=by simpa using h2
             have H:=Za (VY (A,B,C,E) L n hn M.o (.inr (by rw[BZ];intro h;rcases h with h|h;exact h1 h;exact h2 h.1)));have N:Hd (pos (A,B,C,E) L=L.length\/req (rat L (pos (A,B,C,E) L)) (A,B,C,E)=false):=Za (.inr (by rw[H.o,EW];exact fun h=>h2 h.1));clear h1 h2;go_wp2_with fail;go_quiet (fail);rename Nat=>nq;have y:=Za (y.o.lq (below_drewN (Below.refl _ wi) nq));generalize wi.drewN nq=G at *;clear nq;obtain⟨q0,q1,q2,q3,f0,f1,f2,f3,_⟩:=y.o.1;obtain⟨c0,c1,c2,c3⟩:=y.o.2.2.2.q4 hnl;go_wp2_with fail;go_quiet (fail);rename Nat=>nq;have y:=Za (y.o.lq (below_drewN (Below.refl _ G) nq));generalize G.drewN nq=wz at *;clear nq;obtain⟨q0,q1,q2,q3,f0,f1,f2,f3,_⟩:=y.o.1;have Z:=Za (I9 (A,B,C,E) L N.o);rw[H.o] at Z;have hI:=y.o.2.1.cap_le;have Hh:=Za (fun u (hb:Bw wz u) m1 m2 hm=>FQ (w:=u) (g:=g) (l:=L) (n:=m1) (m:=m2) (fun j hj=>(y.o.2.2.2.q4 hj).lq hb) hm);clear M H N
             have hD:(n:Int)<=(X:Int):=by omega
             go_wp2_with (first
              |(at_builtin;refine wpList_append_own _ rfl _ _ 159 rfl wz.heap.size 155 Y (.agg #[.int .i64 0,.int .i64 0,.int .i64 0,.int .i64 0]) 4 32 Y9 hi R T J rfl (by decide) _ _ _ rfl Q.o ⟨g,n*4,none⟩ (L.length-n) (X-n) (A9 ((L.drop n).take (L.length-n))) rfl (by rw[Xo];first|(simp;done)|(simp;omega)) (Hh.o w4 OL2.o n (L.length-n) (by omega)) (Nq _) (by unfold maxLen;omega) (by omega) OL2.o.size ?_;intro v3 w5 D F hv;have OL3:=Za (OL2.o.grown F OL2.o.size (fun k e=>(Q.o.lt k e).1));have I:=Za D;clear F hv D)
              |(at_builtin;refine wpList_append_own _ rfl _ _ 159 rfl wz.heap.size 155 Y (.agg #[.int .i64 0,.int .i64 0,.int .i64 0,.int .i64 0]) 4 32 Y9 hi R T J rfl (by decide) _ _ _ rfl (O.o.alloc _) ⟨U.heap.size,0,none⟩ 1 1 (AG (A,B,C,E)) rfl rfl (Uh _ (A,B,C,E)) (Wm _) (by unfold maxLen;omega) (by omega) (by have:=OL1.o.size;simp;omega) ?_;intro v2 w4 hc hd ht;have OL2:=Za ((OL1.o.alloc OL1.o.size (.cells #[.int .i64 A,.int .i64 B,.int .i64 C,.int .i64 E] 155)).grown hd (by have:=OL1.o.size;simp;omega) (fun k e=>(O.o.lt k e).1));have Q:=Za hc;clear hd ht hc)
              |(at_builtin;refine wpList_append_own _ rfl _ _ 159 rfl wz.heap.size 155 Y (.agg #[.int .i64 0,.int .i64 0,.int .i64 0,.int .i64 0]) 4 32 Y9 hi R T J rfl (by decide) _ _ _ rfl (CI _ _) ⟨g,0,none⟩ n X (A9 ((L.drop 0).take n)) rfl (by rw[Xo];first|(simp;done)|(simp;omega)) (Hh.o wz (Below.refl _ _) 0 n (by omega)) (Nq _) (by unfold maxLen;omega) (by omega) (Nat.le_refl _) ?_;intro v1 U W hs hx;have ha:wz.grownBy U none:=hs;have OL1:=Za ((Below.refl wz.heap.size wz).grown ha (Nat.le_refl _) (fun k e=>by cases e));have O:=Za W;obtain⟨p0,p1,p2,p3,_⟩:=(y.o.1.lq OL1.o);clear hs ha hx W))
             go_roundw
             case rel=>
              refine⟨k+1,by omega,by rw[Hi.o],by go_num,⟨?_,?_⟩,Ma (y.o.2.2.1) OL3.o⟩
              . rw[K.o,Z.o];have h:=ownsRow_base_a I.o y.o.2.2.1.size;simp only[List.drop_zero,Zjn,List.nil_append] at h
                have P:A9 (L.take n++(A,B,C,E)::L.drop n)=A9 (L.take n)++AG (A,B,C,E)++A9 (L.drop n):=by simp[A9]
                have e2:(L.take n++(A,B,C,E)::L.drop n).length=0+n+1+(L.length-n):=by simp;omega
                rw[P,e2];exact h
              . rw[K.o,Z.o]
                constructor
                . intro h
                  rcases I.o.2 with⟨_,h0⟩|⟨_,_,_,h1,_⟩
                  . omega
                  . rw[h1] at h;simp at h
                . intro h;simp at h
             case measure=>simp[intOf];omega
       . obtain rfl:n=L.length:=by omega
         have H:=Za (VY (A,B,C,E) L L.length hn M.o (.inl rfl));have N:Hd (pos (A,B,C,E) L=L.length\/req (rat L (pos (A,B,C,E) L)) (A,B,C,E)=false):=Za (.inl H.o);clear hnl
         by_cases hz:L=[]
         . subst hz;obtain⟨rfl,rfl⟩:=Jet y.o.2.1;simp only[List.length_nil] at *;go_wp2_with fail;go_quiet (fail);rename Nat=>nq;have y:=Za (y.o.lq (below_drewN (Below.refl _ wi) nq));generalize wi.drewN nq=G at *;clear nq;obtain⟨q0,q1,q2,q3,f0,f1,f2,f3,_⟩:=y.o.1;go_wp2_with fail;go_quiet (fail);rename Nat=>nq;have y:=Za (y.o.lq (below_drewN (Below.refl _ G) nq));generalize G.drewN nq=wz at *;clear nq;obtain⟨q0,q1,q2,q3,f0,f1,f2,f3,_⟩:=y.o.1;clear M H N;have TK1:Hd True:=trivial
           go_wp2_with (first
            |(at_builtin;refine wpList_append_own_none rfl _ _ 159 rfl wz.heap.size 155 Y 4 Y9 hi _ _ _ rfl Q.o rfl ?_)
            |(clear TK1;(at_builtin;refine wpList_append_own_none rfl _ _ 159 rfl wz.heap.size 155 Y 4 Y9 hi _ _ _ rfl (CI _ _) rfl ?_))
            |(at_builtin;refine wpList_append_own _ rfl _ _ 159 rfl wz.heap.size 155 Y (.agg #[.int .i64 0,.int .i64 0,.int .i64 0,.int .i64 0]) 4 32 Y9 hi R T J rfl (by decide) _ _ _ rfl ((CI wz.heap.size wz).alloc _) ⟨wz.heap.size,0,none⟩ 1 1 (AG (A,B,C,E)) rfl rfl (Uh _ (A,B,C,E)) (Wm _) (by unfold maxLen;omega) (by omega) (by simp) ?_;intro v2 w4 hc hd ht;have hE:(wz.alloc (.cells #[.int .i64 A,.int .i64 B,.int .i64 C,.int .i64 E] 155)).grownBy w4 none:=hd;have OL2:=Za (((Below.refl wz.heap.size wz).alloc (Nat.le_refl _) (.cells #[.int .i64 A,.int .i64 B,.int .i64 C,.int .i64 E] 155)).grown hE (by simp) (fun k e=>by cases e));have Q:=Za hc;clear hd hE ht hc))
           go_roundw
           case rel=>
            refine⟨k+1,by omega,by rw[Hi.o],by go_num,⟨?_,?_⟩,Ma (y.o.2.2.1) OL2.o⟩
            . rw[K.o];have h:=ownsRow_base_a Q.o y.o.2.2.1.size;simp only[List.nil_append] at h
              have P:A9 (ins (A,B,C,E) [])=AG (A,B,C,E):=by simp[A9,ins]
              rw[P];exact h
            . rw[K.o]
              constructor
              . intro h
                rcases Q.o.2 with⟨_,h0⟩|⟨_,_,_,h1,_⟩
                . omega
                . rw[h1] at h;simp at h
              . intro h;simp[ins] at h
           case measure=>simp[intOf];omega
         . obtain⟨g,rfl⟩:=L7 y.o.2.1 (List.length_pos_iff.2 hz);go_wp2_with fail;go_quiet (fail);rename Nat=>nq;have y:=Za (y.o.lq (below_drewN (Below.refl _ wi) nq));generalize wi.drewN nq=G at *;clear nq;obtain⟨q0,q1,q2,q3,f0,f1,f2,f3,_⟩:=y.o.1;go_wp2_with fail;go_quiet (fail);rename Nat=>nq;have y:=Za (y.o.lq (below_drewN (Below.refl _ G) nq));generalize G.drewN nq=wz at *;clear nq;obtain⟨q0,q1,q2,q3,f0,f1,f2,f3,_⟩:=y.o.1;have Z:=Za (I9 (A,B,C,E) L N.o);rw[H.o] at Z;have hI:=y.o.2.1.cap_le;have Hh:=Za (fun u (hb:Bw wz u) m1 m2 hm=>FQ (w:=u) (g:=g) (l:=L) (n:=m1) (m:=m2) (fun j hj=>(y.o.2.2.2.q4 hj).lq hb) hm);clear M H N
           by_cases hce:X=L.length
           . subst hce
             go_wp2_with (first
              |(at_builtin;refine wpList_append_own _ rfl _ _ 159 rfl wz.heap.size 155 Y (.agg #[.int .i64 0,.int .i64 0,.int .i64 0,.int .i64 0]) 4 32 Y9 hi R T J rfl (by decide) _ _ _ rfl Q.o ⟨g,0,none⟩ 0 0 [] rfl rfl (fun j u h=>by simp at h) (fun u h=>by cases h) (by unfold maxLen;omega) (by omega) OL2.o.size ?_;intro v3 w5 D F hv;have OL3:=Za (OL2.o.grown F OL2.o.size (fun k e=>(Q.o.lt k e).1));have I:=Za D;clear F hv D)
              |(at_builtin;refine wpList_append_own _ rfl _ _ 159 rfl wz.heap.size 155 Y (.agg #[.int .i64 0,.int .i64 0,.int .i64 0,.int .i64 0]) 4 32 Y9 hi R T J rfl (by decide) _ _ _ rfl (O.o.alloc _) ⟨U.heap.size,0,none⟩ 1 1 (AG (A,B,C,E)) rfl rfl (Uh _ (A,B,C,E)) (Wm _) (by unfold maxLen;omega) (by omega) (by have:=OL1.o.size;simp;omega) ?_;intro v2 w4 hc hd ht;have OL2:=Za ((OL1.o.alloc OL1.o.size (.cells #[.int .i64 A,.int .i64 B,.int .i64 C,.int .i64 E] 155)).grown hd (by have:=OL1.o.size;simp;omega) (fun k e=>(O.o.lt k e).1));have Q:=Za hc;clear hd ht hc)
              |(at_builtin;refine wpList_append_own _ rfl _ _ 159 rfl wz.heap.size 155 Y (.agg #[.int .i64 0,.int .i64 0,.int .i64 0,.int .i64 0]) 4 32 Y9 hi R T J rfl (by decide) _ _ _ rfl (CI _ _) ⟨g,0,none⟩ L.length L.length (A9 ((L.drop 0).take L.length)) rfl (by rw[Xo];first|(simp;done)|(simp;omega)) (Hh.o wz (Below.refl _ _) 0 L.length (by omega)) (Nq _) (by unfold maxLen;omega) (by omega) (Nat.le_refl _) ?_;intro v1 U W hs hx;have ha:wz.grownBy U none:=hs;have OL1:=Za ((Below.refl wz.heap.size wz).grown ha (Nat.le_refl _) (fun k e=>by cases e));have O:=Za W;obtain⟨p0,p1,p2,p3,_⟩:=(y.o.1.lq OL1.o);clear hs ha hx W))
             go_roundw
             case rel=>
              refine⟨k+1,by omega,by rw[Hi.o],by go_num,⟨?_,?_⟩,Ma (y.o.2.2.1) OL3.o⟩
              . rw[K.o,Z.o];have h:=ownsRow_base_a I.o y.o.2.2.1.size;simp only[List.drop_zero,List.nil_append,List.append_nil] at h
                have P:A9 (L.take L.length++(A,B,C,E)::L.drop L.length)=A9 (L.take L.length)++AG (A,B,C,E):=by simp[A9]
                have e2:(L.take L.length++(A,B,C,E)::L.drop L.length).length=0+L.length+1+0:=by simp
                rw[P,e2];exact h
              . rw[K.o,Z.o]
                constructor
                . intro h
                  rcases I.o.2 with⟨_,h0⟩|⟨_,_,_,h1,_⟩
                  . omega
                  . rw[h1] at h;simp at h
                . intro h;simp at h
             case measure=>simp[intOf];omega
           . have hD:(L.length:Int)<(X:Int):=by omega
             have hN:0<X-L.length:=by omega
             go_wp2_with (first
              |(at_builtin;refine wpList_append_own _ rfl _ _ 159 rfl wz.heap.size 155 Y (.agg #[.int .i64 0,.int .i64 0,.int .i64 0,.int .i64 0]) 4 32 Y9 hi R T J rfl (by decide) _ _ _ rfl Q.o ⟨g,L.length*4,none⟩ 0 (X-L.length) [] rfl rfl (fun j u h=>by simp at h) (fun u h=>by cases h) (by unfold maxLen;omega) (by omega) OL2.o.size ?_;intro v3 w5 D F hv;have OL3:=Za (OL2.o.grown F OL2.o.size (fun k e=>(Q.o.lt k e).1));have I:=Za D;clear F hv D)
              |(at_builtin;refine wpList_append_own _ rfl _ _ 159 rfl wz.heap.size 155 Y (.agg #[.int .i64 0,.int .i64 0,.int .i64 0,.int .i64 0]) 4 32 Y9 hi R T J rfl (by decide) _ _ _ rfl (O.o.alloc _) ⟨U.heap.size,0,none⟩ 1 1 (AG (A,B,C,E)) rfl rfl (Uh _ (A,B,C,E)) (Wm _) (by unfold maxLen;omega) (by omega) (by have:=OL1.o.size;simp;omega) ?_;intro v2 w4 hc hd ht;have OL2:=Za ((OL1.o.alloc OL1.o.size (.cells #[.int .i64 A,.int .i64 B,.int .i64 C,.int .i64 E] 155)).grown hd (by have:=OL1.o.size;simp;omega) (fun k e=>(O.o.lt k e).1));have Q:=Za hc;clear hd ht hc)
              |(at_builtin;refine wpList_append_own _ rfl _ _ 159 rfl wz.heap.size 155 Y (.agg #[.int .i64 0,.int .i64 0,.int .i64 0,.int .i64 0]) 4 32 Y9 hi R T J rfl (by decide) _ _ _ rfl (CI _ _) ⟨g,0,none⟩ L.length X (A9 ((L.drop 0).take L.length)) rfl (by rw[Xo];first|(simp;done)|(simp;omega)) (Hh.o wz (Below.refl _ _) 0 L.length (by omega)) (Nq _) (by unfold maxLen;omega) (by omega) (Nat.le_refl _) ?_;intro v1 U W hs hx;have ha:wz.grownBy U none:=hs;have OL1:=Za ((Below.refl wz.heap.size wz).grown ha (Nat.le_refl _) (fun k e=>by cases e));have O:=Za W;obtain⟨p0,p1,p2,p3,_⟩:=(y.o.1.lq OL1.o);clear hs ha hx W))
             go_roundw
             case rel=>
              refine⟨k+1,by omega,by rw[Hi.o],by go_num,⟨?_,?_⟩,Ma (y.o.2.2.1) OL3.o⟩
              . rw[K.o,Z.o];have h:=ownsRow_base_a I.o y.o.2.2.1.size;simp only[List.drop_zero,List.nil_append,List.append_nil] at h
                have P:A9 (L.take L.length++(A,B,C,E)::L.drop L.length)=A9 (L.take L.length)++AG (A,B,C,E):=by simp[A9]
                have e2:(L.take L.length++(A,B,C,E)::L.drop L.length).length=0+L.length+1+0:=by simp
                rw[P,e2];exact h
              . rw[K.o,Z.o]
                constructor
                . intro h
                  rcases I.o.2 with⟨_,h0⟩|⟨_,_,_,h1,_⟩
                  . omega
                  . rw[h1] at h;simp at h
                . intro h;simp at h
             case measure=>simp[intOf];omega
    . have HR:=Za (Jay ho);rw[decide_eq_false ho] at hB;have HN:Hd ((BM A2 (ws.take (k+1)):Int)=(BM A2 (ws.take k):Int)+1):=Za (by rw[hA.o,Mg,HR.o];simp);generalize at0 ws k=x at *;clear ho;obtain⟨aa,X,rfl,_⟩:=HO.o.rds
      go_wp2_with (go_at_call 131;refine Sm (hB _) ?_);go_roundw
      case rel=>exact⟨k+1,by omega,by rw[HN.o],by go_num,by rw[hA.o,Ue,HR.o];exact HO.o,HB.o⟩
      case measure=>simp[intOf];omega
  . obtain rfl:k=ws.length:=by omega
    rw[List.take_length] at hh;rw[List.take_length];obtain⟨aa,X,rfl,_⟩:=hh.rds;have HO:=Za hh;clear hh;go_wp2;go_ret2;exact⟨⟨_,rfl,HO.o⟩,HB.o⟩
end Go.Proofs.YtnepnnkdgejheaaGreatDoor
