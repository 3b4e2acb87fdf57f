
import Derived.Test.YtnepnnkdgejheaaGreatDoorKp32
set_option maxRecDepth 100000
set_option maxHeartbeats 20000000
namespace Go.Proofs.YtnepnnkdgejheaaGreatDoor
open Go.RowKit Plain Tryz
variable {B i j k:Nat}{C:CR}{N now x z:Int}{Q:Exit->Act->World->Prop}{at':Nat->Nat->Int}{l:List Ft}{o:Oper}{ops:Array Oper}{p:Nat->Int}{rs:List Rd}{s v:Value}{u u' v0 w0:V6}
theorem UN(B:Nat)(e:V8)(G:Nat)(l:List Ft)(now ax k:Int)(hl:l.length<=1000)(w:V6)(h1:Kc w B 32 (.slice e l.length G))(h2:V2 w B 63 now)(j:Fts w e l):
 Va 246 #[Ve B 0,Vi ax,Vi k] w (Rt w (aiV (ail l now ax k false))):=by
 have ha:=fun u (h:Bw w u)=>NQ B e G l now ax k false hl u (cell_later h h1) (cell_later h h2) (j.lq h);clear h1 h2 j;generalize ail l now ax k false=ak at *;generalize j:ak.getD ftD=f at *;obtain⟨H,Z,Y,X,Q⟩:=f;have R:=Za j;have hc:=MB (H,Z,Y,X,Q)
 unfold ftL at ha hc
 dsimp only at ha hc
 clear j
 go_enter func246,ntmps246
 go_upto_region 2 with(go_at_call 263;refine Sb (ha _ (Below.refl _ _)) fun v m=>?_;have y:=Za m;clear m);have y:=Za (Zc y.o (Zb v (.cells #[Vi H,Vi Z,Vi Y,Vi X,Vi Q] 64)));clear ha
 cases ak with
 |none=>
  go_wp2_with fail;go_ret;exact⟨rfl,y.o⟩
 |some f=>
  obtain rfl:f=(H,Z,Y,X,Q):=R.o
  go_wp2_with (go_at_call 279;refine Sb (hc _) fun v m=>?_;have y:=Za (Zc y.o m);clear m);go_ret;exact⟨rfl,y.o⟩
theorem Jpk:(prog.info? 155).map (·.size)=some 4:=by kernel_rfl
theorem GQ(B:Nat)(Z:V8)(X:Nat)(l:List Ft)(now ax k lab x:Int)(hl:l.length<=1000)(w:V6)(h1:Kc w B 32 (.slice Z l.length X))(h2:V2 w B 63 now)(j:Fts w Z l):
 Va 200 #[Ve B 0,Vi ax,Vi k,Vi lab,Vi x] w fun e w'=>(∃p cap,e=.returned (.slice p (chR l now ax k lab x).length cap)/\Rds w' p (chR l now ax k lab x))/\Bw w w':=by
 have hc:=fun u (h:Bw w u)=>UN B Z X l now ax k hl u (cell_later h h1) (cell_later h h2) (j.lq h);have Q:∀u,Va 244 #[Vi x] u (Re u (Vi (cW x))):=F9 x;have ha:=Jia (ail l now ax k false) (lab,k,3,cW x) (Xb (by omega));have G:Hd (chR l now ax k lab x=sdL (ail l now ax k false) (lab,k,3,cW x)):=Za rfl;rw[G.o]
 unfold rdL at ha
 dsimp only at ha
 clear h1 h2 j G;generalize ail l now ax k false=ak at *;generalize cW x=cx at*
 go_enter func200,ntmps200
 go_upto_region 2 with(go_at_call 244;refine Sm (Q _) ?_);have m:=Zb w (.cells #[Vi lab,Vi k,Vi 3,Vi cx] 155);have R:Hd (Blk 155 (w.alloc (.cells #[Vi lab,Vi k,Vi 3,Vi cx] 155)) w.heap.size [Vi lab,Vi k,Vi 3,Vi cx]):=Za (Blk.new w _ _);generalize w.alloc (.cells #[Vi lab,Vi k,Vi 3,Vi cx] 155)=v1 at *;generalize w.heap.size=QR at R|-;clear Q;refine Cs [17,18,19,20,21,22,10] ?_;refine Cp 0 17 [] ?_;refine Cp 1 18 [] ?_;refine Cp 2 19 [] ?_;refine Cc 3 20 [0,1,2] (fun y w h _=>hc _ (Zc m h)) ?_;refine Cl (x:=.tmp 11) 4 21 [] (fun y w _ u K=>⟨Zf R.o.range K,rfl⟩) underlying155 Jpk ?_;refine Cd 5 22 [3,4] (fun v u=>∃p cap,v=.slice p (sdL ak (lab,k,3,cx)).length cap/\Rds u p (sdL ak (lab,k,3,cx))) (fun y w h _=>(ha _).mono (by rintro e w' ⟨⟨p,cap,rfl,H⟩,Y⟩;exact⟨_,rfl,⟨p,cap,rfl,H⟩,Y⟩)) (fun _ _ _ ⟨a,b,h1,h3⟩ Y=>⟨a,b,h1,h3.lq Y⟩) ?_;refine Cu (fun y=>y 22) 6 10 [5] ?_ (hy:=fun y w _ u=>by go_simp);refine Ce (fun y M m j=>?_);obtain⟨p,cap,e,H⟩:=j.2.1;simp only[e];have T:=Za H;clear H e;have J:=Za m;clear m j;go_simp;have hd:=J.o;clear J;generalize M=v2 at hd T|-;refine Ek ?_;clear hc ha;go_wp2_with fail;go_ret;exact⟨⟨p,cap,rfl,T.o⟩,Zc m hd⟩
theorem Cy{P:Program}{md:Region.Mode}{D:List Nat}{F:(Nat->Value)->Act}{S':V6->Prop}{listed0:Array Bool}{fuel:Nat}{r:List Ent}{G:V6->Prop}(g:∀w,Bw w0 w->G w)(i d:Nat)(j:List Nat)(k:Cb P md ops Q w0 D F S' listed0 fuel (⟨i,d,false,fun y _=>y d=v⟩::r))(ho:ops[i]?=some o:=by rfl)(hc:Yn md ops D listed0 j i d false r=true:=by kernel_rfl)(hw:∀y w,AH j y w r->Region.wanted o (yielded ops (F y).tmps)=true:=by intro y w hF;rfl)(hy:∀y w,G w->AH j y w r->(execOp (F y).eval o).run P w=.ok (.value v) w:=by intro y w hG hF;simp only[AH,List.contains_cons,List.contains_nil,Nat.reduceBEq,Bool.or_false,Bool.or_true,if_true,if_false,Bool.false_eq_true] at hF;go_simp;(try first|with_reducible rfl|rfl)):
 Cb P md ops Q w0 D F S' listed0 fuel r:=
 Cv i d j _ (fun y w hS hF=>⟨v,w,hy y w (g w hS) hF,Below.refl _ _,if_pos rfl⟩) k (fun _ _ _ _ h ha _=>(ha _ (List.mem_cons_self ..)).trans h) ho hc hw
def nz(f:Nat->Int)(k:Nat):List Value:=[Vi (if 0<k then f 0 else 0),Vi (if 1<k then f 1 else 0),Vi (if 2<k then f 2 else 0)]
theorem Jpl(f:Nat->Int)(hk:k<3):(nz f k).set k (Vi (f k))=nz f (k+1):=by
 rcases Qth k with rfl|rfl|rfl<;>rfl
theorem Jib(f:Nat->Int)(hk:k<3):(nz f k)[k]?=some (Vi 0):=by
 rcases Qth k with rfl|rfl|rfl<;>rfl
theorem YR(b z:Int)(h:1<=b)(h0:0<=z):∀k,0<=dig b z k/\dig b z k<=z
 |0=>by simp[dig];exact h0
 |k+1=>by
  have:=YR b z h h0 k;rw[dig];have h1:=Int.ediv_le_self b this.1;exact⟨Int.ediv_nonneg this.1 (by omega),by omega⟩
theorem YS(h H Z Y X Q G R T hd J M N z:Int)(p q:V8)(n m cn cm:Nat)(hN:0<=N/\N<=1000)(O:0<=z/\z<=8589934591)(w:V6):
 Va 199 #[.agg (Qbb h H N Z Y X Q G R T hd J M p q n cn m cm),Vi z] w (Rt w (.agg (nz (noi N z) 3).toArray)):=by
 obtain⟨N0,N1⟩:=hN;have HZ:=Za (YR (2*N+1) z (by omega) O.1);have Hi:=Za O.2;clear O;have HB:=Za (Nn w (.cells (Qbb h H N Z Y X Q G R T hd J M p q n cn m cm) 38) (.cells #[Vi 0,Vi 0,Vi 0] 99) (.cells #[Vi 0,Vi 0,Vi 0] 99));have U:=Za (UL w 38 [Vi h,Vi H,Vi N,Vi Z,Vi Y,Vi X,Vi Q,Vi G,Vi R,Vi T,Vi hd,Vi J,.slice p n cn,.slice q m cm,Vi M] (.cells #[Vi 0,Vi 0,Vi 0] 99) (.cells #[Vi 0,Vi 0,Vi 0] 99));have HR:Hd (Blk 99 _ _ (nz (noi N z) 0)):=Za (UK w 99 [Vi 0,Vi 0,Vi 0] (.cells (Qbb h H N Z Y X Q G R T hd J M p q n cn m cm) 38) (.cells #[Vi 0,Vi 0,Vi 0] 99));have HL:Hd (Blk 99 _ _ (nz (noi N z) 0)):=Za (UM w 99 [Vi 0,Vi 0,Vi 0] (.cells (Qbb h H N Z Y X Q G R T hd J M p q n cn m cm) 38) (.cells #[Vi 0,Vi 0,Vi 0] 99));have P:Hd (w.heap.size<=w.heap.size+1+1/\w.heap.size≠w.heap.size+1+1/\w.heap.size+1≠w.heap.size+1+1/\w.heap.size<=w.heap.size+1):=Za (by omega)
 go_enter func199,ntmps199
 go_upto_region 2 with fail;generalize (((w.alloc (.cells (Qbb h H N Z Y X Q G R T hd J M p q n cn m cm) 38)).alloc (.cells #[Vi 0,Vi 0,Vi 0] 99)).alloc (.cells #[Vi 0,Vi 0,Vi 0] 99))=v0 at *;generalize w.heap.size+1+1=A at *;generalize w.heap.size+1=I at *;have C:=(U.o.cell (j:=2) rfl).1
 go_upto_region 4 with fail;clear C
 go_loopw [1,12] (fun g ix wr=>∃k:Nat,k<=3/\ix=Vi k/\g=Vi (dig (2*N+1) z k)/\Bw w wr/\Blk 38 wr w.heap.size [Vi h,Vi H,Vi N,Vi Z,Vi Y,Vi X,Vi Q,Vi G,Vi R,Vi T,Vi hd,Vi J,.slice p n cn,.slice q m cm,Vi M]/\Blk 99 wr A (nz (noi N z) k)/\Blk 99 wr I (nz (noi N z) 0)) (fun _ ix _=>3-(intOf ix).toNat)
 case atStart=>exact⟨0,Nat.zero_le _,rfl,rfl,HB.o,U.o,HL.o,HR.o⟩
 case round=>
  obtain⟨k,hk,rfl,rfl,L,ha,hc,E⟩:=hrel;clear HB U HL HR;have g0:=(HZ.o k).1;have g1:=Int.le_trans (HZ.o k).2 Hi.o
  by_cases hlt:k<3
  . have C:=(ha.cell (j:=2) rfl).1;have B:=(hc.cell (Jib _ hlt)).1;have fk:=(hc.cell (Jib _ hlt)).2
    have k0:(0:Int)<=(k:Int):=by omega
    have k1:(k:Int)<3:=by omega
    have HD:Hd (dig (2*N+1) z (k+1)=dig (2*N+1) z k/(2*N+1)):=Za rfl;have HN:Hd (noi N z k=dig (2*N+1) z k%(2*N+1)-N):=Za rfl;generalize dig (2*N+1) z k=g at *;have hh:=Int.emod_nonneg g (show 2*N+1≠0 by omega);have hi:=Int.emod_lt_of_pos g (show 0<2*N+1 by omega);have hj:(2*N+1=0)=False:=eq_false (by omega);have hl:g.tmod (2*N+1)=g%(2*N+1):=Int.tmod_eq_emod_of_nonneg g0;have hm:g.tdiv (2*N+1)=g/(2*N+1):=Int.tdiv_eq_ediv_of_nonneg g0;have hn:=Wr (g%(2*N+1)-N);have ho:=Int.ediv_nonneg g0 (show 0<=2*N+1 by omega);have hp:=Int.ediv_le_self (2*N+1) g0
    have hq:wrap64 (g/(2*N+1))=g/(2*N+1):=by unfold wrap64;omega
    have Hc:=Za hc;have Hf:=Za ha;have Hg:=Za E;have F:=Za L;clear L ha hc E
    go_upto_region 6 with fail;refine Ct [15,16,17,18,19,20,21,22] ?_;refine Cp 0 15 [] ?_;refine Cp 1 16 [] ?_;refine Cp 2 17 [] ?_;refine Cp 3 18 [1,2] ?_;refine Cp 4 19 [] ?_;refine Cy (V5 C) 5 20 [4] ?_;refine Cp 6 21 [3,5] ?_;refine Cp 7 22 [0] ?_;refine Cn 1 9 [8] (fun y u D _=>?_);refine Ra 8 (fun K hK=>?_);have e:=cell_later D B;have e1:=Yw D B fk;go_simp;refine hK.out _ _ trivial (fun _=>?_);clear hK K e e1;refine Dn ?_;have W:=Za ((F.o.trans (D.mono F.o.size)).setCell (p:=⟨A,k,none⟩) P.o.1 (Vi (g%(2*N+1)-N)));have Hh:=Za ((Hc.o.lq D).set k (Vi (noi N z k)));rw[Jpl _ hlt,HN.o] at Hh;have Hj:=Za ((Hf.o.lq D).far P.o.2.1 k (Vi (g%(2*N+1)-N)));have Hk:=Za ((Hg.o.lq D).far P.o.2.2.1 k (Vi (g%(2*N+1)-N)));clear F Hc Hf Hg D B fk C;generalize u.setCell (Ad A k) (Vi (g%(2*N+1)-N))=v1 at *;go_simp;refine Ek ?_;go_wp2_with fail;go_roundw
    case rel=>exact⟨k+1,by omega,by go_num,by rw[HD.o],W.o,Hj.o,Hh.o,Hk.o⟩
    case measure=>simp[intOf];omega
  . obtain rfl:k=3:=by omega
    have F:=Za L;have x0:=(hc.cell (j:=0) rfl).1;have x1:=(hc.cell (j:=1) rfl).1;have C:=(hc.cell (j:=2) rfl).1;have l0:=E.cell (j:=0) rfl;have l1:=E.cell (j:=1) rfl;have l2:=E.cell (j:=2) rfl;simp only[Nat.reduceLT,if_true] at x0 x1 C;have Hl:=P.o.2.2.1;have HE:Hd (nz (noi N z) 3=[Vi (noi N z 0),Vi (noi N z 1),Vi (noi N z 2)]):=Za rfl;generalize noi N z 0=n0 at *;generalize noi N z 1=n1 at *;generalize noi N z 2=n2 at *;have W:=Za (((F.o.setCell (p:=⟨I,0,none⟩) P.o.2.2.2 (Vi n0)).setCell (p:=⟨I,1,none⟩) P.o.2.2.2 (Vi n1)).setCell (p:=⟨I,2,none⟩) P.o.2.2.2 (Vi n2));clear L ha hc E;go_wp2_with fail;exact bodyPost_ret (v:=.agg #[Vi n0,Vi n1,Vi n2]) (by simp[results,results199,go_sem,l0,l1,l2]) rfl ⟨by rw[HE.o],W.o⟩
theorem Jmd{p:V8}(h:Rds u p rs):Lay u p (A9 rs):=by
 rcases h with rfl|⟨g,rfl,hc⟩
 . exact .inl rfl
 . refine .inr ⟨g,0,rfl,fun j v y=>?_⟩;have hl:=Xo rs;have ha:j<(A9 rs).length:=(List.getElem?_eq_some_iff.1 y).1
   have hk:j/4<rs.length:=by omega
   have f:=FL rs (j/4) hk;have q:=hc (j/4) hk;rw[Nat.zero_add]
   rcases(show j=j/4*4\/j=j/4*4+1\/j=j/4*4+2\/j=j/4*4+3 by omega) with e|e|e|e<;>rw[e] at y|-
   . rw[f.1] at y;cases y;exact q.1
   . rw[f.2.1] at y;cases y;exact q.2.1
   . rw[f.2.2.1] at y;cases y;exact q.2.2.1
   . rw[f.2.2.2] at y;cases y;exact q.2.2.2
theorem Jbu:∀(y:List Rd),∀v∈A9 y,v.oneCell'=true
 |[],v,h=>by cases h
 |r::l,v,h=>by
  have e:A9 (r::l)=Vi r.1::Vi r.2.1::Vi r.2.2.1::Vi r.2.2.2::A9 l:=rfl;rw[e] at h;simp only[List.mem_cons] at h
  rcases h with rfl|rfl|rfl|rfl|h
  . rfl
  . rfl
  . rfl
  . rfl
  . exact Jbu l v h
theorem UO:∀(a b:List Rd),A9 (a++b)=A9 a++A9 b
 |[],_=>rfl
 |r::l,b=>by
  have e:∀l,A9 (r::l)=Vi r.1::Vi r.2.1::Vi r.2.2.1::Vi r.2.2.2::A9 l:=fun _=>rfl;rw[List.cons_append,e,e,UO l b];rfl
theorem Blk.grew'{t:TypeId}{cs:List Value}{row:Option Nat}(h:Blk t u B cs)(y:u.grownBy u' row)(j:some B≠row):Blk t u' B cs:=(y.block B h.lt j).trans h
def ROw(v0 u:V6)(s:Value)(h:List Rd):Prop:=u.ownsRow v0.heap.size 155 4 s h.length (A9 h)/\Bw v0 u
theorem ROw.lq(h:ROw v0 u s rs)(y:Bw u u'):ROw v0 u' s rs:=⟨Xc h.1 y,Zc h.2 y⟩
theorem ROw.nil(v0:V6):ROw v0 v0 (.slice none 0 0) []:=⟨World.ownsRow_nil _ _ _ _,Below.refl _ _⟩
theorem N8{rest:List Oper}{a:Act}{ns:List Rd}{p:V8}{c:Nat}(w H:Operand)(ho:o.op=.call { callee:=.builtin .append,args:=#[w,H],argTypes:=#[159,159] })(hx:a.eval H=.slice p ns.length c)(ha:ROw v0 u s rs)(hy:Rds u p ns)(J:rs.length+ns.length<=1000)(h:∀m y,ROw v0 y m (rs++ns)->(∀t B Z,t≠155->Blk t u B Z->Blk t y B Z)->wpList prog ops Q rest (a.put o.dst m) y)(hc:o.guard=none:=by rfl)(hs:a.eval w=s:=by rfl):wpList prog ops Q (o::rest) a u:=by
 obtain⟨K,hd,Y,X,G⟩:=info_parts IC;refine Mf w H ho Y9 hd Y X G hx ha.1 (Jmd hy) (Xo ns) (Jbu ns) (by unfold maxLen;omega) (by omega) ha.2.size (fun m y h1 h2=>h m y ⟨?_,ha.2.grown h2 ha.2.size (fun k hk=>(ha.1.lt k hk).1)⟩ (fun t B Z R j=>j.grew' h2 (fun e=>?_))) (by decide) rfl hc hs
 . rw[List.length_append,UO];exact h1
 . rcases ha.1.2 with⟨rfl,_⟩|⟨g,cap,hi,rfl,_,T,_⟩
   . cases e
   . obtain rfl:B=g:=Option.some.inj e
     unfold Blk at j
     rw[T] at j
     simp at j
     exact R j.2.symm
theorem CF(l:List Ft)(now ax k lab x:Int):(chR l now ax k lab x).length<=1:=by
 unfold chR sdL
 split
 . simp
 . split<;>simp
theorem CG(l:List Ft)(now:Int)(i:Nat)(N x z:Int):∀k,(chU l now i N x z k).length<=k
 |0=>by simp[chU]
 |k+1=>by
  have:=CG l now i N x z k;have:=CF l now i k (1+i) (x+noi N z k);rw[chU,List.length_append];omega
theorem EE(i:Nat)(at':Nat->Int):∀k,(suU i at' k).length=k
 |0=>rfl
 |k+1=>by rw[suU,List.length_append,EE i at' k];rfl
theorem IN(l:List Ft)(now v:Int):∀k,(spR l now v k).length<=k
 |0=>by simp[spR]
 |k+1=>by
  have:=IN l now v k;have:=CF l now 2 k 8 v;rw[spR,List.length_append];omega
theorem IP(C:CR)(l:List Ft)(now:Int)(x:Nat->Int)(at':Nat->Nat->Int)(s:Stp)(h:∀i,i<2->C.a i 4<=4):∀i,i<=2->(axU C l now x at' s i).length<=8*i
 |0,_=>by simp[axU]
 |i+1,hi=>by
  have a:=IP C l now x at' s h i (by omega);have b:=CG l now i (C.a i 2) (x i) (s.z i) 3;have c:=h i (by omega);rw[axU,axR,List.length_append,List.length_append,List.length_append,EE];simp only[List.length_cons,List.length_nil]
  omega
def flL(C:CR)(pf:V8)(nf cf:Nat)(S:FS)(now:Int)(x:Nat->Int)(at':Nat->Nat->Int):List Value:=
 crL C++[.slice pf nf cf]++stL S++[Vi now,Vi (x 0),Vi (x 1),Vi (at' 0 0),Vi (at' 0 1),Vi (at' 0 2),Vi (at' 0 3),Vi (at' 1 0),Vi (at' 1 1),Vi (at' 1 2),Vi (at' 1 3)]
def A6(s:Stp):List Value:=[Vi (s.k 0),Vi (s.k 1),Vi (s.p 0),Vi (s.p 1),Vi (s.z 0),Vi (s.z 1),Vi s.v,.bool s.g]
section
variable (C : CR) (pf : Option Addr) (nf cf : Nat) (S : FS) (now : Int) (x : Nat -> Int) (at' : Nat -> Nat -> Int) (s : Stp)
theorem Jme:((flL C pf nf cf S now x at').drop 0).take 30=axL C 0++axL C 1:=rfl
theorem Jic(hi:i<2):(flL C pf nf cf S now x at')[64+i]?=some (Vi (x i)):=by
 rcases Qtw i with rfl|rfl<;>rfl
theorem Jid(hi:i<2)(hk:k<4):(flL C pf nf cf S now x at')[66+i*4+k]?=some (Vi (at' i k)):=by
 rcases Qtw i with rfl|rfl<;>rcases(show k=0\/k=1\/k=2\/k=3 by omega) with rfl|rfl|rfl|rfl<;>rfl
theorem Jie(hi:i<2):(A6 s)[i]?=some (Vi (s.k i)):=by
 rcases Qtw i with rfl|rfl<;>rfl
theorem Jif(hi:i<2):(A6 s)[2+i]?=some (Vi (s.p i)):=by
 rcases Qtw i with rfl|rfl<;>rfl
theorem Jig(hi:i<2):(A6 s)[4+i]?=some (Vi (s.z i)):=by
 rcases Qtw i with rfl|rfl<;>rfl
end
theorem Jpm(f:Nat->Int)(hk:k<3)(w:V6):(Instr.index 99 (.agg (nz f 3).toArray) (Vi k)).run prog w=.ok (Vi (f k)) w:=by
 rcases Qth k with rfl|rfl|rfl<;>kernel_rfl
theorem PM(w:V6)(r:Rd):Rds (w.alloc (.cells (rdL r).toArray 155)) (some (Ad w.heap.size 0)) [r]:=
 have h:=Blk.new w 155 (rdL r)
 Jbt (h.cell (j:=0) rfl).1 (h.cell (j:=1) rfl).1 (h.cell (j:=2) rfl).1 (h.cell (j:=3) rfl).1
theorem Jbv(C:CR)(hi:i<2)(w:V6):(Instr.index 39 (.agg (axL C 0++axL C 1).toArray) (Vi i)).run prog w=.ok (.agg (axL C i).toArray) w:=by
 rcases Qtw i with rfl|rfl
 . exact P2 C w
 . exact P3 C w
theorem Jih(C:CR)(i:Nat)(z:Int)(hN:0<=C.a i 2/\C.a i 2<=1000)(h:0<=z/\z<=8589934591)(w:V6):Va 199 #[.agg (axL C i).toArray,Vi z] w (Rt w (.agg (nz (noi (C.a i 2) z) 3).toArray)):=
 YS _ _ _ _ _ _ _ _ _ _ _ _ (C.a i 2) z _ _ _ _ _ _ hN h w
theorem Jpn(hN:0<=N)(k:Nat):-N<=noi N z k/\noi N z k<=N:=by
 have h0:=Int.emod_nonneg (dig (2*N+1) z k) (show 2*N+1≠0 by omega);have h1:=Int.emod_lt_of_pos (dig (2*N+1) z k) (show 0<2*N+1 by omega)
 unfold noi
 omega
def plR(T:Int)(o:Option Rd)(f:Option Ft):Int:=match o with
 |none=>0
 |some r=>if r.2.2.1=3 then(match f with
  |some f=>Ze f.2.2.2.2 (-T) T
  |none=>r.2.2.2) else 0
theorem Jrt(C:CR)(h:V8)(y j:Nat)(S:FS)(now:Int)(x:Nat->Int)(at':Nat->Nat->Int)(hi:i<2):(flL C h y j S now x at')[i*15+5]?=some (Vi (C.a i 5)):=by
 rcases Qtw i with rfl|rfl<;>rfl
theorem Jeh(B:Nat)(C:CR)(X:V8)(K:Nat)(l:List Ft)(S:FS)(now:Int)(x:Nat->Int)(at':Nat->Nat->Int)(i k:Nat)(hi:i<2)(hk:k<4)(M:V8)(F:Nat)(Y:List Rd)(O:Y.length<=1000)(w:V6)(y:Blk 198 w B (flL C X l.length K S now x at'))(I:Fts w X l)(hl:l.length<=1000)(U:1<=C.a i 5/\C.a i 5<=1000)(L:Rds w M Y):
 Va 214 #[Ve B 0,Vi i,Vi k,.slice M Y.length F] w fun e w'=>e=.returned (Vi (plR (C.a i 5) (fnd (64+4*(i:Int)+(k:Int)) 3 Y) (ail l now i k true)))/\Bw w w':=by
 obtain⟨T0,T1⟩:=U;have Q:=Mu 64 (i:Int) (k:Int);have ha:=SS M F Y (64+4*(i:Int)+(k:Int)) 3 O w L;have G:=fun u (h:Bw w u)=>NQ B X K l now i k true hl u ((y.lq h).cell (j:=32) rfl).1 ((y.lq h).cell (j:=63) rfl).1 (I.lq h);have A:=Za (fun u (h:Bw w u)=>((y.lq h).cell (Jrt C X l.length K S now x at' hi)).1);clear y I L
 have i0:(0:Int)<=(i:Int):=by omega
 have i1:(i:Int)<2:=by omega
 have k0:(0:Int)<=(k:Int):=by omega
 have k1:(k:Int)<4:=by omega
 generalize ail l now i k true=ak at *;generalize 64+4*(i:Int)+(k:Int)=lb at*
 unfold BA at ha
 cases hfn:fnd lb 3 Y with
 |none=>
  rw[hfn] at ha
  dsimp only[rdV] at ha
  go_enter func214,ntmps214
  go_wp2_with (first
   |(go_at_call 202;refine Sm (Q _) ?_)
   |(go_at_call 262;refine ha.mono ?_;rintro e v ⟨rfl,y⟩;have m:=Za y;clear y))
  go_ret;exact⟨rfl,Zc m.o Vc⟩
 |some r=>
  obtain⟨ra,H,R,Z⟩:=r;rw[hfn] at ha
  dsimp only[rdV] at ha
  clear hfn
  by_cases hc:R=3
  . subst hc
    cases ak with
    |none=>
     dsimp only[Option.getD_none,ftL,ftD,Option.isSome_none] at G
     go_enter func214,ntmps214
     go_upto_region 4 with(first|(go_at_call 202;refine Sm (Q _) ?_)|(go_at_call 262;refine ha.mono ?_;rintro e v ⟨rfl,y⟩;have m:=Za (Zc y (Zb v (.cells #[Vi ra,Vi H,Vi 3,Vi Z] 155)));clear y));have hd:=(Blk.new v 155 [Vi ra,Vi H,Vi 3,Vi Z]).cell (j:=3) rfl;generalize v.alloc (.cells #[Vi ra,Vi H,Vi 3,Vi Z] 155)=v1 at*
     go_upto_region 5 with(go_at_call 263;refine Sb (G _ m.o) fun z y=>?_;replace m:=Za (Zc m.o y);have hd:=cell_later y hd.1;clear y);have T:=Za (Zc m.o (Zb z (.cells #[Vi 0,Vi 0,Vi 0,Vi 0,Vi 0] 64)));have hd:=cell_later (Zb z (.cells #[Vi 0,Vi 0,Vi 0,Vi 0,Vi 0] 64)) hd;generalize z.alloc (.cells #[Vi 0,Vi 0,Vi 0,Vi 0,Vi 0] 64)=v2 at *;go_wp2_with fail;go_ret;exact⟨rfl,T.o⟩
    |some f=>
     obtain⟨N,P,D,E,J⟩:=f
     dsimp only[Option.getD_some,ftL,Option.isSome_some] at G
     have W:=Y1 J (-(C.a i 5)) (C.a i 5)
     go_enter func214,ntmps214
     go_upto_region 4 with(first|(go_at_call 202;refine Sm (Q _) ?_)|(go_at_call 262;refine ha.mono ?_;rintro e v ⟨rfl,y⟩;have m:=Za (Zc y (Zb v (.cells #[Vi ra,Vi H,Vi 3,Vi Z] 155)));clear y));have hd:=(Blk.new v 155 [Vi ra,Vi H,Vi 3,Vi Z]).cell (j:=3) rfl;generalize v.alloc (.cells #[Vi ra,Vi H,Vi 3,Vi Z] 155)=v1 at*
     go_upto_region 6 with(go_at_call 263;refine Sb (G _ m.o) fun z y=>?_;replace m:=Za (Zc m.o y);have hd:=cell_later y hd.1;clear y);have T:=Za (Zc m.o (Zb z (.cells #[Vi N,Vi P,Vi D,Vi E,Vi J] 64)));have c4:=((Blk.new z 64 [Vi N,Vi P,Vi D,Vi E,Vi J]).cell (j:=4) rfl).1;have ht:=A.o _ T.o;generalize z.alloc (.cells #[Vi N,Vi P,Vi D,Vi E,Vi J] 64)=v2 at*
     go_wp2_with (go_at_call 264;refine Sm (W _) ?_);go_ret;exact⟨rfl,T.o⟩
  . have hm:(R==3)=false:=by simpa using hc
    have Hc:Hd (plR (C.a i 5) (some (ra,H,R,Z)) ak=0):=Za (by unfold plR;exact if_neg hc);rw[Hc.o];clear hc
    go_enter func214,ntmps214
    go_wp2_with (first|(go_at_call 202;refine Sm (Q _) ?_)|(go_at_call 262;refine ha.mono ?_;rintro e v ⟨rfl,y⟩;have m:=Za (Zc y (Zb v (.cells #[Vi ra,Vi H,Vi R,Vi Z] 155)));clear y));go_ret;exact⟨rfl,m.o⟩
def mvX(p:Nat->Int):Nat->Int
 |0=>0
 |k+1=>mvX p k+p k
def mvA(at':Nat->Nat->Int)(i:Nat)(p:Nat->Int)(k:Nat):Nat->Nat->Int:=upd at' i (fun j=>if j<k then p j else at' i j)
theorem Jbw(C:CR)(h:V8)(y j:Nat)(S:FS)(now:Int)(x:Nat->Int)(at':Nat->Nat->Int)(hi:i<2)(v:Int):(flL C h y j S now x at').set (64+i) (Vi v)=flL C h y j S now (upd x i v) at':=by
 rcases Qtw i with rfl|rfl<;>rfl
theorem Jmf(C:CR)(h:V8)(y j:Nat)(S:FS)(now:Int)(x:Nat->Int)(at':Nat->Nat->Int)(hi:i<2)(hk:k<4)(v:Int):(flL C h y j S now x at').set (66+i*4+k) (Vi v)=flL C h y j S now x (upd at' i (upd (at' i) k v)):=by
 rcases Qtw i with rfl|rfl<;>rcases(show k=0\/k=1\/k=2\/k=3 by omega) with rfl|rfl|rfl|rfl<;>rfl
theorem Jru(C:CR)(h:V8)(y j:Nat)(S:FS)(now:Int)(x:Nat->Int)(at':Nat->Nat->Int)(hi:i<2):(flL C h y j S now x at')[i*15+4]?=some (Vi (C.a i 4)):=by
 rcases Qtw i with rfl|rfl<;>rfl
theorem Jii(at':Nat->Nat->Int)(i:Nat)(p:Nat->Int)(k:Nat):upd (mvA at' i p k) i (upd (mvA at' i p k i) k (p k))=mvA at' i p (k+1):=by
 funext j r
 unfold mvA upd
 by_cases h:j=i
 . simp only[h,if_true]
   by_cases h1:r=k
   . subst h1;simp
   . by_cases h2:r<k
     . rw[if_neg h1,if_pos h2,if_pos (by omega)]
     . rw[if_neg h1,if_neg h2,if_neg (by omega)]
 . simp only[h,if_false]
theorem Jij(at':Nat->Nat->Int)(i:Nat)(p:Nat->Int):mvA at' i p 0=at':=by
 funext j r
 unfold mvA upd
 by_cases h:j=i
 . subst h;simp
 . simp[h]
theorem Jei(x:Nat->Int)(i:Nat):upd x i (x i+0)=x:=by
 funext j;unfold upd;by_cases h:j=i
 . subst h;simp
 . simp[h]
theorem Jik(h:∀k,-300000<=p k/\p k<=300000):∀k:Nat,-300000*(k:Int)<=mvX p k/\mvX p k<=300000*(k:Int)
 |0=>by simp[mvX]
 |k+1=>by
  have a:=Jik h k;have b:=h k;rw[mvX];omega
def Oth(h u:V6)(B:Nat):Prop:=h.heap.size<=u.heap.size/\u.os=h.os/\u.tape=h.tape/\u.output=h.output/\∀b,b<h.heap.size->b≠B->u.heap[b]?=h.heap[b]?
theorem Oth.refl(w:V6)(B:Nat):Oth w w B:=⟨Nat.le_refl _,rfl,rfl,rfl,fun _ _ _=>rfl⟩
theorem Oth.lq(h:Oth w0 u B)(y:Bw u u'):Oth w0 u' B:=⟨Nat.le_trans h.1 y.size,y.os.trans h.2.1,y.tape.trans h.2.2.1,y.output.trans h.2.2.2.1,fun b h1 h2=>(y.block b (Nat.lt_of_lt_of_le h1 h.1)).trans (h.2.2.2.2 b h1 h2)⟩
theorem Oth.set(h:Oth w0 u B):Oth w0 (u.setCell (Ad B j) v) B:=
 have y:=(Below.refl 0 u).setCell (p:=⟨B,j,none⟩) (Nat.zero_le _) v
 ⟨Nat.le_trans h.1 y.size,y.os.trans h.2.1,y.tape.trans h.2.2.1,y.output.trans h.2.2.2.1,fun b h1 h2=>(heap_setCell_other u ⟨B,j,none⟩ b v h2).trans (h.2.2.2.2 b h1 h2)⟩
theorem Oth.cell{b:Nat}(h:Oth w0 u B)(y:b≠B)(hc:w0.cell? (Ad b j)=some v):u.cell? (Ad b j)=some v:=by
 have hl:=World.block_lt_of_cell? w0 _ hc;have:=h.2.2.2.2 b hl y
 unfold World.cell? at hc|-
 simp only[this];exact hc
theorem Oth.rds{a:V8}{l:List Rd}(h:Oth w0 u B)(hn:∀g,a=some (Ad g 0)->g≠B)(y:Rds w0 a l):Rds u a l:=by
 rcases y with y|⟨g,e,hc⟩
 . exact .inl y
 . exact .inr ⟨g,e,fun k hk=>⟨h.cell (hn g e) (hc k hk).1,h.cell (hn g e) (hc k hk).2.1,h.cell (hn g e) (hc k hk).2.2.1,h.cell (hn g e) (hc k hk).2.2.2⟩⟩
theorem Oth.fts{a:V8}(h:Oth w0 u B)(hn:l≠[]->∀g o,a=some (Ad g o)->g≠B)(y:Fts w0 a l):Fts u a l:=by
 rcases y with y|⟨g,o,e,hc⟩
 . exact .inl y
 . exact .inr ⟨g,o,e,fun k hk j v m=>h.cell (hn (fun z=>by rw[z] at hk;simp at hk) g o e) (hc k hk j v m)⟩
theorem Jil(B:Nat)(C:CR)(Z:V8)(X:Nat)(l:List Ft)(S:FS)(now:Int)(x:Nat->Int)(at':Nat->Nat->Int)(i:Nat)(hi:i<2)(P:V8)(I:Nat)(G:List Rd)(push:Int)(p:Nat->Int)(L:p=fun k:Nat=>plR (C.a i 5) (fnd (64+4*(i:Int)+(k:Int)) 3 G) (ail l now i k true))(hh:G.length<=1000)(w:V6)(Y:Blk 198 w B (flL C Z l.length X S now x at'))(O:Fts w Z l)(hl:l.length<=1000)(hT:1<=C.a i 5/\C.a i 5<=1000)(h4:2<=C.a i 4/\C.a i 4<=4)(U:Rds w P G)(hd:∀g,P=some (Ad g 0)->g≠B)(A:l≠[]->∀g o,Z=some (Ad g o)->g≠B)(ha:∀k,-300000<=p k/\p k<=300000)(hx:-10000000<=x i/\x i<=10000000)(hj:-1000<=push/\push<=1000):
 Va 165 #[Ve B 0,Vi i,.slice P G.length I,Vi push] w fun e w'=>e=.returned (.tuple #[])/\Blk 198 w' B (flL C Z l.length X S now (upd x i (x i+mvX p (C.a i 4).toNat+push)) (mvA at' i p (C.a i 4).toNat))/\Oth w w' B:=by
 obtain⟨m,hm⟩:∃m:Nat,C.a i 4=(m:Int):=⟨(C.a i 4).toNat,by omega⟩
 have hq:2<=m/\m<=4:=by omega
 rw[show(C.a i 4).toNat=m by omega];have HM:=Za (Jik ha);have Hh:=Za ha;have Hi:=Za L;clear L;have HF:=Za (fun u (h:Oth w u B)=>h.fts A O);have HR:=Za (fun u (h:Oth w u B)=>h.rds hd U);obtain⟨x0,x1⟩:=hx;obtain⟨p0,p1⟩:=hj;have W:=(Y.cell (Jru C Z l.length X S now x at' hi)).1;rw[hm] at W
 have i0:(0:Int)<=(i:Int):=by omega
 have i1:(i:Int)<2:=by omega
 have HB:=Za Y;clear O U hd A ha Y
 go_enter func165,ntmps165
 go_upto_region 1 with fail;clear W
 go_loopw [17] (fun ix wr=>∃k:Nat,k<=m/\ix=Vi k/\Blk 198 wr B (flL C Z l.length X S now (upd x i (x i+mvX p k)) (mvA at' i p k))/\Oth w wr B) (fun ix _=>m-(intOf ix).toNat)
 case atStart=>exact⟨0,Nat.zero_le _,rfl,by rw[Jij,mvX,Jei];exact HB.o,Oth.refl _ _⟩
 case round=>
  clear HB;obtain⟨k,hk,rfl,Y,ho⟩:=hrel;have hs:=HM.o k;have ht:=Hh.o k
  by_cases hlt:k<m
  . have k0:(0:Int)<=(k:Int):=by omega
    have k1:(k:Int)<(m:Int):=by omega
    have k4:(k:Int)<4:=by omega
    have hc:=fun u (h:Bw wr u)=>Jeh B C Z X l S now (upd x i (x i+mvX p k)) (mvA at' i p k) i k hi (by omega) P I G hh u (Y.lq h) ((HF.o wr ho).lq h) hl hT ((HR.o wr ho).lq h);rw[show plR (C.a i 5) (fnd (64+4*(i:Int)+(k:Int)) 3 G) (ail l now i k true)=p k by rw[Hi.o]] at hc;have D:=Y.cell (Jid C Z l.length X S now (upd x i (x i+mvX p k)) (mvA at' i p k) hi (show k<4 by omega));have T:=Za Y;have J:=Za ho;clear Y ho
    go_upto_region 3 with fail;refine Ct [20,21,22,23,24,25,26,27,28,29,30,31] ?_;refine Cp 0 20 [] ?_;refine Cp 1 21 [] ?_;refine Cp 2 22 [] ?_;refine Cp 3 23 [] ?_;refine Cp 4 24 [] ?_;refine Cp 5 25 [] ?_;refine Cp 6 26 [] ?_;refine Cc 7 27 [3,4,5,6] (fun y w h _=>hc _ h) ?_;refine Cp 8 28 [0] ?_;refine Cp 9 29 [8] ?_;refine Cp 10 30 [9,1] ?_;refine Cp 11 31 [10,2] ?_;refine Cn 1 13 [12] (fun y u H _=>?_);refine Ra 12 (fun K hK=>?_);have e:=cell_later H D.1;have e1:=Yw H D.1 D.2;go_simp;refine hK.out _ _ trivial (fun _=>?_);clear hK K;refine Dn ?_;have R:=Za ((T.o.lq H).set (66+i*4+k) (Vi (p k)));rw[Jmf _ _ _ _ _ _ _ _ hi (show k<4 by omega),Jii] at R;have Hg:=Za ((J.o.lq H).set (j:=66+i*4+k) (v:=Vi (p k)));clear T J H hc D;generalize u.setCell (Ad B (66+i*4+k)) (Vi (p k))=v3 at *;go_simp;refine Ek ?_
    go_upto_region 4 with fail;have Q:=(R.o.cell (Jic C Z l.length X S now (upd x i (x i+mvX p k)) (mvA at' i p (k+1)) hi)).1;have M:=(R.o.cell (Jic C Z l.length X S now (upd x i (x i+mvX p k)) (mvA at' i p (k+1)) hi)).2;have E:=(R.o.cell (Jid C Z l.length X S now (upd x i (x i+mvX p k)) (mvA at' i p (k+1)) hi (show k<4 by omega))).1;rw[Zs] at Q;rw[show mvA at' i p (k+1) i k=p k by unfold mvA upd;simp] at E;have Hj:Hd (x i+mvX p (k+1)=x i+mvX p k+p k):=Za (by rw[mvX];omega);have hn:=Wr (x i+mvX p k+p k);generalize mvX p k=mk at *;generalize p k=pk at *;generalize hg:x i=xx at *;have Hk:=Za hg;clear hg;refine Ct [32,33,34,35,36,37,38,39,40,41,42,43,44,45,46,47,48,49] ?_;refine Cp 0 32 [] ?_;refine Cp 1 33 [] ?_;refine Cp 2 34 [0] ?_;refine Cp 3 35 [2] ?_;refine Cp 4 36 [3,1] ?_;refine Cy (V5 Q) 5 37 [4] ?_;refine Cp 6 38 [] ?_;refine Cp 7 39 [] ?_;refine Cp 8 40 [] ?_;refine Cp 9 41 [6] ?_;refine Cp 10 42 [9] ?_;refine Cp 11 43 [10,7] ?_;refine Cp 12 44 [11,8] ?_;refine Cy (V5 E) 13 45 [12] ?_;refine Cp 14 46 [5,13] ?_;refine Cp 15 47 [0] ?_;refine Cp 16 48 [15] ?_;refine Cp 17 49 [16,1] ?_;refine Cn 1 19 [18] (fun y u H _=>?_);refine Ra 18 (fun K hK=>?_);have e:=cell_later H Q;have e1:=Yw H Q M;go_simp;refine hK.out _ _ trivial (fun _=>?_);clear hK K;refine Dn ?_;have N:=Za ((R.o.lq H).set (64+i) (Vi (xx+mk+pk)));rw[Jbw _ _ _ _ _ _ _ _ hi,E6] at N;have F:=Za ((Hg.o.lq H).set (j:=64+i) (v:=Vi (xx+mk+pk)));clear R Hg H Q M E;generalize u.setCell (Ad B (64+i)) (Vi (xx+mk+pk))=v4 at *;go_simp;refine Ek ?_;go_wp2_with fail;go_roundw
    case rel=>exact⟨k+1,by omega,by go_num,by rw[Hk.o,Hj.o];exact N.o,F.o⟩
    case measure=>simp[intOf];omega
  . obtain rfl:k=m:=by omega
    have Q:=(Y.cell (Jic C Z l.length X S now (upd x i (x i+mvX p k)) (mvA at' i p k) hi)).1;have M:=(Y.cell (Jic C Z l.length X S now (upd x i (x i+mvX p k)) (mvA at' i p k) hi)).2;rw[Zs] at Q;have hn:=Wr (x i+mvX p k+push);have T:=Za Y;have J:=Za ho;clear Y ho;generalize Hl:x i+mvX p k=mk at*
    go_upto_region 6 with fail;refine Ct [51,52,53,54,55,56,57,58,59,60,61] ?_;refine Cp 0 51 [] ?_;refine Cp 1 52 [] ?_;refine Cp 2 53 [0] ?_;refine Cp 3 54 [2] ?_;refine Cp 4 55 [3,1] ?_;refine Cy (V5 Q) 5 56 [4] ?_;refine Cp 6 57 [] ?_;refine Cp 7 58 [5,6] ?_;refine Cp 8 59 [0] ?_;refine Cp 9 60 [8] ?_;refine Cp 10 61 [9,1] ?_;refine Cn 1 12 [11] (fun y u H _=>?_);refine Ra 11 (fun K hK=>?_);have e:=cell_later H Q;have e1:=Yw H Q M;go_simp;refine hK.out _ _ trivial (fun _=>?_);clear hK K;refine Dn ?_;have N:=Za ((T.o.lq H).set (64+i) (Vi (mk+push)));rw[Jbw _ _ _ _ _ _ _ _ hi,E6] at N;have F:=Za ((J.o.lq H).set (j:=64+i) (v:=Vi (mk+push)));clear T J H Q M;generalize u.setCell (Ad B (64+i)) (Vi (mk+push))=v4 at *;subst Hl;exact bodyPost_end (v:=.tuple #[]) (by simp[results,results165,go_sem]) rfl ⟨rfl,N.o,F.o⟩
theorem Jpo:(prog.info? 68).map (·.size)=some 2:=by kernel_rfl
theorem Jpp:(prog.info? 73).map (·.size)=some 8:=by kernel_rfl
theorem Xn:(prog.info? 75).map (·.size)=some 15:=by kernel_rfl
section
variable (C : CR) (pf : Option Addr) (nf cf : Nat) (S : FS) (now : Int) (x : Nat -> Int) (at' : Nat -> Nat -> Int)
theorem Jrv:((flL C pf nf cf S now x at').drop 64).take 2=[Vi (x 0),Vi (x 1)]:=rfl
theorem Jrw:((flL C pf nf cf S now x at').drop 66).take 8=[Vi (at' 0 0),Vi (at' 0 1),Vi (at' 0 2),Vi (at' 0 3),Vi (at' 1 0),Vi (at' 1 1),Vi (at' 1 2),Vi (at' 1 3)]:=rfl
theorem Jrx(hi:i<3):((flL C pf nf cf S now x at').drop (33+i*7)).take 7=bkL (S.bk i):=by
 rcases Qth i with rfl|rfl|rfl<;>rfl
theorem Jry(hi:i<2):(flL C pf nf cf S now x at')[33+21+i]?=some (.slice (S.sp i) (S.sn i) (S.sc i)):=by
 rcases Qtw i with rfl|rfl<;>rfl
end
theorem Jrz(r:Rp)(hi:i<2):(rpL r)[2+i]?=some (Vi (r.l i)):=by
 rcases Qtw i with rfl|rfl<;>rfl
theorem Jpq(r:Rp)(hi:i<2):(rpL r)[4+i]?=some (Vi (r.s i)):=by
 rcases Qtw i with rfl|rfl<;>rfl
theorem Jbx(r:Rp)(hi:i<2)(v:Int):(rpL r).set (2+i) (Vi v)=rpL { r with l:=upd r.l i v }:=by
 rcases Qtw i with rfl|rfl<;>rfl
theorem PN(r:Rp)(hi:i<2)(v:Int):(rpL r).set (4+i) (Vi v)=rpL { r with s:=upd r.s i v }:=by
 rcases Qtw i with rfl|rfl<;>rfl
def fz(f:Nat->Int)(i:Nat):Nat->Int:=fun j=>if j<i then f j else 0
theorem Jby(f:Nat->Int)(i:Nat):upd (fz f i) i (f i)=fz f (i+1):=by
 funext j;unfold upd fz
 by_cases h:j=i
 . subst h;simp
 . by_cases h2:j<i
   . rw[if_neg h,if_pos h2,if_pos (by omega)]
   . rw[if_neg h,if_neg h2,if_neg (by omega)]
theorem YT(tmps:Array Value)(U:V6)(Y:Nat)(h:List Value)(h2:tmps.getD 2 undef=Ve Y 0)(y:U.rangeAt Y 0 h)(hn:h.length=15):
 (results Tryz.f110 tmps).run prog U=.ok (.agg h.toArray) U:=by
 have h3:tmps[2]?.getD undef=Ve Y 0:=by simpa using h2
 simp[results,results110,h3,asAddr,run_loadVar_mid U Y 0 75 h _ y underlying75 rfl (by rw[Xn,hn])]
theorem YV(B:Nat)(C:CR)(pf:V8)(nf cf:Nat)(S:FS)(now:Int)(x:Nat->Int)(at':Nat->Nat->Int)(sv:Nat->List Sv)(w:V6)(Z:Blk 198 w B (flL C pf nf cf S now x at'))(D:SvL w S sv):
 Va 110 #[Ve B 0] w (Rt w (.agg (rpL (rpF ⟨S,sv,x,at'⟩)).toArray)):=by
 have J:=Za (fun u (h:Bw w u)=>Z.lq h);have HV:=Za (fun i (hi:i<2) u (h:Bw w u)=>(D i hi).2.2.lq h);have Ho:=Za (fun i (hi:i<2)=>(D i hi).1);have Hp:=Za (fun i (hi:i<2)=>(D i hi).2.1);have H:=Za (Blk.new w 75 Qba);have M:=Za (Zb w (.cells Qbm 75));clear Z D
 go_enter func110,ntmps110
 go_upto_region 1 with fail;generalize w.alloc (.cells Qbm 75)=v0 at *;have I:=Za ((J.o v0 M.o).sub 64 2);rw[Jrv] at I;have L:=Za ((J.o v0 M.o).sub 66 8);rw[Jrw] at L;have W:=((J.o v0 M.o).cell (j:=62) rfl).1;refine Cs [5,6,7,8,9,10,11,12,13,14,15,16,17,18,3] ?_;refine Cp 0 5 [] ?_;refine Cp 1 6 [0] ?_;refine Cp 2 7 [1] ?_;refine Cl (x:=.tmp 7) 3 8 [2] (fun y w hF u hc=>⟨Zf I.o hc,hF.1⟩) underlying68 Jpo ?_;refine Cp 4 9 [] ?_;refine Cp 5 10 [4] ?_;refine Cp 6 11 [5] ?_;refine Cp 7 12 [6] ?_;refine Cq (V5 W) 8 13 [7] ?_;refine Cp 9 14 [] ?_;refine Cp 10 15 [9] ?_;refine Cp 11 16 [10] ?_;refine Cl (x:=.tmp 16) 12 17 [11] (fun y w hF u hc=>⟨Zf L.o hc,hF.1⟩) underlying73 Jpp ?_;refine Cp 13 18 [3,8,12] ?_;refine Ca 14 3 ?_;refine Cn 1 16 [15] (fun y O G hf=>?_);obtain⟨X,e,R⟩:=hf.1;have N:Hd (NB _ _ _ X Qba):=Za R;(try simp only[e]);clear e R;have Hm:=Za G;clear G hf;refine Ra 15 (fun K hK=>?_);rw[if_pos (by rfl)];refine Z2 75 (.tmp 3) (.tmp 18) rfl X 0 #[Vi (x 0),Vi (x 1),Vi 0,Vi 0,Vi 0,Vi 0,Vi S.n,Vi (at' 0 0),Vi (at' 0 1),Vi (at' 0 2),Vi (at' 0 3),Vi (at' 1 0),Vi (at' 1 1),Vi (at' 1 2),Vi (at' 1 3)] rfl rfl (N.o.1.there (Nat.le_of_ble_eq_true rfl)) Xn (Zm _ rfl) rfl ?_;have U:=Za (Zo [Vi (x 0),Vi (x 1),Vi 0,Vi 0,Vi 0,Vi 0,Vi S.n,Vi (at' 0 0),Vi (at' 0 1),Vi (at' 0 2),Vi (at' 0 3),Vi (at' 1 0),Vi (at' 1 1),Vi (at' 1 2),Vi (at' 1 3)] 0 O Hm.o (NB.le N.o))
 have Hg:Hd (NB 75 v0.heap.size (O.setCells X 0 [Vi (x 0),Vi (x 1),Vi 0,Vi 0,Vi 0,Vi 0,Vi S.n,Vi (at' 0 0),Vi (at' 0 1),Vi (at' 0 2),Vi (at' 0 3),Vi (at' 1 0),Vi (at' 1 1),Vi (at' 1 2),Vi (at' 1 3)]) X [Vi (x 0),Vi (x 1),Vi 0,Vi 0,Vi 0,Vi 0,Vi S.n,Vi (at' 0 0),Vi (at' 0 1),Vi (at' 0 2),Vi (at' 0 3),Vi (at' 1 0),Vi (at' 1 1),Vi (at' 1 2),Vi (at' 1 3)]):=Za ⟨Blk.setCells [Vi (x 0),Vi (x 1),Vi 0,Vi 0,Vi 0,Vi 0,Vi S.n,Vi (at' 0 0),Vi (at' 0 1),Vi (at' 0 2),Vi (at' 0 3),Vi (at' 1 0),Vi (at' 1 1),Vi (at' 1 2),Vi (at' 1 3)] 0 O Qba N.o.1,NB.le N.o⟩;generalize hU:World.setCells _ X 0 _=u2 at *;clear hU;refine hK.out _ _ U.o (fun _=>?_);clear hK K;clear Hm N;refine Dn ?_;go_simp;have R:=Hg.o;clear Hg;have G:=U.o;clear U;generalize u2=v1 at G R|-;refine Ek ?_;have m:Hd (Blk 75 v1 X (rpL ⟨x,fz (fun i=>Zt (S.bk i).o 3) 0,fz (fun i=>AI (sv i) (sv i).length) 0,S.n,at'⟩)):=Za R.1;have E:Hd (w.heap.size≠X/\w.heap.size<=X):=Za (by have:=NB.le R;have:=H.o.lt;omega);have H:=Za (H.o.lq G);have Y:=Za (Zc M.o G);clear R G I L W M
 go_upto_region 3 with fail
 go_loopw [19] (fun ix wr=>∃i:Nat,i<=2/\ix=Vi i/\Blk 75 wr X (rpL ⟨x,fz (fun i=>Zt (S.bk i).o 3) i,fz (fun i=>AI (sv i) (sv i).length) i,S.n,at'⟩)/\Blk 75 wr w.heap.size Qba/\Bw w wr) (fun ix _=>2-(intOf ix).toNat)
 case atStart=>exact⟨0,by omega,rfl,m.o,H.o,Y.o⟩
 case round=>
  clear m H Y;obtain⟨i,hg,rfl,P,F,ha⟩:=hrel
  by_cases hi:i<2
  . have i0:(0:Int)<=(i:Int):=by omega
    have i1:(i:Int)<2:=by omega
    have A:=Za ((J.o wr ha).sub (33+i*7) 7);rw[Jrx C pf nf cf S now x at' (show i<3 by omega)] at A;have hd:=T2 (S.bk i).b (S.bk i).o (S.bk i).l;have Q:=P.cell (Jrz _ hi);have m:=Za P;have H:=Za F;have Y:=Za ha;have Hq:Hd (upd (fz (fun i=>Zt (S.bk i).o 3) i) i (Zt (S.bk i).o 3)=fz (fun i=>Zt (S.bk i).o 3) (i+1)):=Za (Jby (fun i=>Zt (S.bk i).o 3) i);have Hr:Hd (upd (fz (fun i=>AI (sv i) (sv i).length) i) i (AI (sv i) (sv i).length)=fz (fun i=>AI (sv i) (sv i).length) (i+1)):=Za (Jby (fun i=>AI (sv i) (sv i).length) i);clear P F ha
    go_upto_region 6 with(first
     |(refine Lm 102 (.tmp 28) rfl B (33+i*7) (bkL (S.bk i)) A.o underlying102 Xl ?_)
     |(go_at_call 166;refine Sb (hd _) fun v Z=>?_;replace m:=Za (m.o.lq Z);replace H:=Za (H.o.lq Z);replace Y:=Za (Zc Y.o Z);have e2:=cell_later Z Q.1;have e3:=Yw Z Q.1 Q.2;clear Z))
    replace m:=Za (m.o.set (2+i) (Vi (Zt (S.bk i).o 3)));rw[Jbx _ hi] at m
    dsimp only at m
    rw[Hq.o] at m;replace H:=Za (H.o.far E.o.1 (2+i) (Vi (Zt (S.bk i).o 3)));replace Y:=Za (Y.o.setCell (p:=⟨X,2+i,none⟩) E.o.2 (Vi (Zt (S.bk i).o 3)));clear A hd Q e2 e3;generalize v.setCell (Ad X (2+i)) (Vi (Zt (S.bk i).o 3))=v5 at *;have es:=((J.o v5 Y.o).cell (Jry C pf nf cf S now x at' hi)).1;rw[Ho.o i hi] at es;have he:=fun u (h:Bw w u)=>NK (sv i) (S.sp i) (S.sc i) (by have:=Hp.o i hi;omega) u (HV.o i hi u h);have Q:=m.o.cell (Jpq _ hi)
    go_wp2_with (go_at_call 167;refine Sb (he _ Y.o) fun v Z=>?_;replace m:=Za (m.o.lq Z);replace H:=Za (H.o.lq Z);replace Y:=Za (Zc Y.o Z);have e2:=cell_later Z Q.1;have e3:=Yw Z Q.1 Q.2;clear Z);replace m:=Za (m.o.set (4+i) (Vi (AI (sv i) (sv i).length)));rw[PN _ hi] at m
    dsimp only at m
    rw[Hr.o] at m;replace H:=Za (H.o.far E.o.1 (4+i) (Vi (AI (sv i) (sv i).length)));replace Y:=Za (Y.o.setCell (p:=⟨X,4+i,none⟩) E.o.2 (Vi (AI (sv i) (sv i).length)));go_roundw
    case rel=>exact⟨i+1,by omega,by go_num,m.o,H.o,Y.o⟩
    case measure=>simp[intOf];omega
  . obtain rfl:i=2:=by omega
    have m:=Za P;have H:=Za F;have Y:=Za ha;have HE:Hd (rpL (rpF ⟨S,sv,x,at'⟩)=rpL ⟨x,fz (fun i=>Zt (S.bk i).o 3) 2,fz (fun i=>AI (sv i) (sv i).length) 2,S.n,at'⟩):=Za rfl;generalize Hn:rpL ⟨x,fz (fun i=>Zt (S.bk i).o 3) 2,fz (fun i=>AI (sv i) (sv i).length) 2,S.n,at'⟩=cs at *;have T:Hd (cs.length=15/\cs.toArray.all (·.oneCell')=true):=Za (by rw[<-Hn];exact⟨rfl,Zm _ rfl⟩);clear P F ha Hn
    go_wp2_with (first
     |(refine Lm 75 (.tmp 3) rfl X 0 cs m.o.range underlying75 (by rw[Xn,T.o.1]) ?_)
     |(refine Sq 75 _ _ rfl ?_;refine wpList_store_mid rfl 75 (.tmp 2) (.tmp 45) rfl w.heap.size 0 cs.toArray rfl rfl (H.o.there (by simp[T.o.1])) (by rw[Xn];simp[T.o.1]) T.o.2 ?_))
    have Hs:=Za (H.o.there (o:=0) (n:=cs.length) (by simp[T.o.1]));exact bodyPost_ret (v:=.agg cs.toArray) (YT _ _ w.heap.size cs rfl (World.rangeAt_setCells_same _ _ _ _ Hs.o) T.o.1) rfl ⟨by rw[HE.o],Zo cs 0 wr Y.o (Nat.le_refl _)⟩
theorem Jmh{r:Rd}(h:Yf r=true):A2 (pk1 r)=some r:=by
 obtain⟨a,b,c,d⟩:=r;have h1:=Jio (show BN a b c d=true from h);have h2:=Jej (show BN a b c d=true from h)
 unfold DS at h2
 simp only[Value.agg.injEq,Array.mk.injEq,List.cons.injEq,Value.int.injEq,true_and,and_true] at h2;obtain⟨y,j,m,e⟩:=h2
 show A2 (Z7 a b c d)=_
 unfold A2
 rw[if_pos h1,y,j,m,e]
theorem UQ(l:List Rd):∀k,k<=l.length->pkU l k=(l.take k).map pk1
 |0,_=>by simp[pkU]
 |k+1,h=>by
  rw[pkU,UQ l k (by omega),List.take_succ_eq_append_getElem (by omega),List.map_append]
  unfold rat
  rw[List.getD_eq_getElem?_getD,List.getElem?_eq_getElem (by omega)]
  rfl
theorem UR(l:List Rd):pkU l l.length=l.map pk1:=by rw[UQ l _ (Nat.le_refl _),List.take_length]
theorem Jae{l:List Rd}(hk:k<l.length):rat l k∈l:=by
 unfold rat
 rw[List.getD_eq_getElem?_getD,List.getElem?_eq_getElem hk];exact List.getElem_mem hk
theorem Jip{w:V6}{a:V8}{l:List Rd}(y:∀r∈l,Yf r=true)(h:BP w a (l.map pk1)):Wds w a (l.map pk1):=by
 refine⟨?_,fun x hx=>?_⟩
 . rcases h with h|⟨g,h,hc⟩
   . exact .inl h
   . exact .inr ⟨g,0,h,fun k hk=>by rw[Nat.zero_add];exact hc k hk⟩
 . obtain⟨r,j,rfl⟩:=List.mem_map.1 hx;exact Jb0 (y r j)
theorem We{a b c d:Int}(ha:0<=a/\a<256)(h:0<=b/\b<4)(hd:-262144<=d/\d<262144)(hc:0<=c/\c<4:=by omega):Yf (a,b,c,d)=true:=by
 unfold Yf BN
 simp only[Bool.and_eq_true,decide_eq_true_eq];exact⟨⟨⟨ha,h⟩,hc⟩,hd⟩
theorem NR(x:Int):-262144<=cW x/\cW x<262144:=by have:=Xb (v:=x) (show(-262144:Int)<=262143 by omega);unfold cW;omega
theorem Jn9(x:Int):-262144<=cD x/\cD x<262144:=by have:=Xb (v:=x) (show(-262143:Int)<=262143 by omega);unfold cD;omega
theorem Jb2{ax k lab:Int}(hl:0<=lab/\lab<256)(hk:0<=k/\k<4):∀r∈chR l now ax k lab x,Yf r=true:=by
 intro r h
 unfold chR sdL at h
 split at h
 . obtain rfl:=List.mem_singleton.1 h;exact We hl hk (NR x)
 . split at h
   . cases h
   . obtain rfl:=List.mem_singleton.1 h
     unfold spo
     dsimp only
     split
     . exact We hl hk (Jn9 _)
     . split
       . exact We hl hk (NR _)
       . split
         . exact We hl hk (NR _)
         . exact We hl hk (NR _)
theorem Jb3(hi:i<2):∀k,k<=3->∀r∈chU l now i N x z k,Yf r=true
 |0,_,r,h=>by cases h
 |k+1,hk,r,h=>by
  rw[chU] at h
  rcases List.mem_append.1 h with h|h
  . exact Jb3 hi k (by omega) r h
  . exact Jb2 (by omega) (by omega) r h
theorem Jb4{at':Nat->Int}(hi:i<2)(ha:∀k,k<4->-1000<=at' k/\at' k<=1000):∀k,k<=4->∀r∈suU i at' k,Yf r=true
 |0,_,r,h=>by cases h
 |k+1,hk,r,h=>by
  rw[suU] at h
  rcases List.mem_append.1 h with h|h
  . exact Jb4 hi ha k (by omega) r h
  . obtain rfl:=List.mem_singleton.1 h;have:=ha k (by omega);exact We (by omega) (by omega) (by omega)
theorem Jb5{v:Int}:∀k,k<=3->∀r∈spR l now v k,Yf r=true
 |0,_,r,h=>by cases h
 |k+1,hk,r,h=>by
  rw[spR] at h
  rcases List.mem_append.1 h with h|h
  . exact Jb5 k (by omega) r h
  . exact Jb2 (by omega) (by omega) r h
theorem Jb6{x:Nat->Int}{s:Stp}(h4:∀i,i<2->C.a i 4<=4)(ha:∀i,i<2->∀k,k<4->-1000<=at' i k/\at' i k<=1000)(hk:∀i,i<2->-100<=s.k i/\s.k i<=100):∀r∈saR C l now x at' s,Yf r=true:=by
 have y:∀i,i<=2->∀r∈axU C l now x at' s i,Yf r=true:=by
  intro i
  induction i with
  |zero=>intro _ r h;cases h
  |succ i ih=>
   intro hi r h;rw[axU] at h;have h5:=h4 i (by omega)
   rcases List.mem_append.1 h with h|h
   . exact ih (by omega) r h
   . unfold axR at h
     rcases List.mem_append.1 h with h|h
     . rcases List.mem_append.1 h with h|h
       . exact Jb3 (by omega) 3 (by omega) r h
       . exact Jb4 (by omega) (ha i (by omega)) _ (by omega) r h
     . obtain rfl:=List.mem_singleton.1 h;have:=hk i (by omega);exact We (by omega) (by omega) (by omega)
 intro r h
 unfold saR at h
 rcases List.mem_append.1 h with h|h
 . rcases List.mem_append.1 h with h|h
   . exact y 2 (by omega) r h
   . exact Jb5 3 (by omega) r h
 . split at h
   . obtain rfl:=List.mem_singleton.1 h
     rfl
   . cases h
theorem PO(i j:Nat)(L:List Sv)(k:Nat)(y:j<2)(hi:i<2)(hk:k<4):∀n,n<=4->lst (64+4*(i:Int)+k) 3 (rdU j L n)=if j=i/\k<n then some (rd1 i L k) else none
 |0,_=>by rw[if_neg (by omega)];rfl
 |n+1,hn=>by
  rw[rdU,KT,PO i j L k y hi hk n (by omega),show(rd1 j L n).1=64+4*(j:Int)+n from rfl,show(rd1 j L n).2.1=3 from rfl]
  by_cases h:j=i/\k=n
  . obtain⟨rfl,rfl⟩:=h;rw[if_pos ⟨rfl,rfl⟩,if_pos ⟨rfl,by omega⟩]
  . rw[if_neg (fun e=>h (by omega))]
    by_cases h2:j=i/\k<n
    . rw[if_pos h2,if_pos ⟨h2.1,by omega⟩]
    . rw[if_neg h2,if_neg (fun e=>by omega)]
theorem Jmi(v:Nat->List Sv)(n:Int)(hi:i<2)(hl:∀i,i<2->(v i).length<=4)(hk:k<(v i).length):lst (64+4*(i:Int)+k) 3 (rdA v n)=some (rd1 i (v i) k):=by
 have h0:=hl 0 (by omega);have h1:=hl 1 (by omega);have ha:=hl i hi
 unfold rdA
 rw[KT,if_neg (by dsimp only;omega)]
 show lst _ _ (rdX v 1++rdU 1 (v 1) (v 1).length)=_
 rw[KR,PO i 1 (v 1) k (by omega) hi (by omega) _ h1]
 have e:rdX v 1=rdU 0 (v 0) (v 0).length:=by simp[rdX]
 rw[e,PO i 0 (v 0) k (by omega) hi (by omega) _ h0]
 rcases Qtw i with rfl|rfl
 . rw[if_neg (by omega),if_pos ⟨rfl,hk⟩];rfl
 . rw[if_pos ⟨rfl,hk⟩];rfl
theorem Jmj(C:CR)(l:List Ft)(now:Int)(i k:Nat)(L:List Sv):plR (C.a i 5) (some (rd1 i L k)) (ail l now i k true)=plc C l now i k (A0 L k):=by
 unfold plR plc rd1
 dsimp only
 cases h:(A0 L k).2.2
 . first|(simp;done)|(simp;rfl)
 . simp
theorem Jiq{S S':FS}{l:List Rd}{sv:Nat->List Sv}(h:S'.bk=S.bk/\S'.hd=S.hd/\S'.n=S.n):vS3 C S' l sv=vS3 C S l sv/\(sS3 C S' l sv).bk=(sS3 C S l sv).bk/\(sS3 C S' l sv).hd=(sS3 C S l sv).hd/\(sS3 C S' l sv).n=(sS3 C S l sv).n:=by
 obtain⟨b,p,n,c,d,m⟩:=S;obtain⟨y,j,e,c',d',w⟩:=S';obtain⟨h1,h2,h3⟩:=h
 dsimp only at h1 h2 h3
 subst h1 h2 h3;exact⟨rfl,rfl,rfl,rfl⟩
theorem Jpr(C:CR)(S:FS)(sv:Nat->List Sv)(l:List Rd)(Y:∀r∈l,Yf r=true)(y:V8)(H:Nat)(w:V6)(X:GV w)(hl:CrL w C)(Q:SvL w S sv)(hw:BP w y (l.map pk1))(ha:l.length<=64)(h0:stE C S sv=0):
 Va 163 #[.agg (crL C).toArray,.agg (stL S).toArray,.slice y l.length H] w fun e w'=>(∃T g c,e=.returned (.tuple #[.agg (stL T).toArray,Vf g 0 (rdA (vS3 C S (gat A2 (l.map pk1)) sv) (sS3 C S (gat A2 (l.map pk1)) sv).n).length c,.nilIface])/\(T.bk=(sS3 C S (gat A2 (l.map pk1)) sv).bk/\T.hd=(sS3 C S (gat A2 (l.map pk1)) sv).hd/\T.n=(sS3 C S (gat A2 (l.map pk1)) sv).n)/\SvL w' T (vS3 C S (gat A2 (l.map pk1)) sv)/\BP w' (some (Ad g 0)) ((rdA (vS3 C S (gat A2 (l.map pk1)) sv) (sS3 C S (gat A2 (l.map pk1)) sv).n).map pk1)/\∀i,i<2->∃G,T.sp i=some (Ad G 0)/\w.heap.size<=G)/\Bw w w':=by
 have h:=UG C S sv (l.map pk1) y H w X hl Q (Jip Y hw) (by rw[List.length_map];exact ha) h0 (fun K R S' hS J=>Jbr (ws:=l.map pk1) h0 K R hS J);rw[List.length_map] at h;refine h.mono ?_;rintro e w' ⟨S',g,c,Z,hS,h3,h4,h5,h6⟩;obtain⟨j,M,N,m⟩:=Jiq (C:=C) (l:=gat A2 (l.map pk1)) (sv:=sv) hS;rw[j,m] at Z;rw[j] at h3;rw[j,m,UR] at h4;exact⟨⟨_,g,c,Z,⟨M,N,m⟩,h3,h4,h6⟩,h5⟩
theorem Jir{v:Nat->List Sv}{n:Int}(h:∀r∈rdA v n,Yf r=true)(hi:i<2)(hl:∀i,i<2->(v i).length<=4)(hk:k<(v i).length):fnd (64+4*(i:Int)+k) 3 (gat A2 ((rdA v n).map pk1))=some (rd1 i (v i) k):=by
 rw[Jmg _ _ _ _ _ (fun r y=>Jmh (h r y))];exact Jmi v n hi hl hk
theorem Jb7{L:List Sv}:∀m:Nat,(∀k,k<m->p k=plc C l now i k (A0 L k))->mvX p m=plU C l now i L m
 |0,_=>rfl
 |m+1,h=>by rw[mvX,plU,Jb7 m (fun k hk=>h k (by omega)),h m (by omega)]
theorem Jps{q:Nat->Int}{m:Nat}(h:∀k,k<m->p k=q k)(j k:Nat):mvA at' i p m j k=if j=i/\k<m then q k else at' j k:=by
 unfold mvA upd
 by_cases hj:j=i
 . subst hj
   by_cases hk:k<m
   . rw[if_pos rfl,if_pos hk,if_pos ⟨rfl,hk⟩,h k hk]
   . rw[if_pos rfl,if_neg hk,if_neg (fun e=>hk e.2)]
 . rw[if_neg hj,if_neg (fun e=>hj e.1)]
section
variable {C : CR} {l : List Ft} {now : Int} {x : Nat -> Int} {at' : Nat -> Nat -> Int} {s : Stp}
end
section
variable {C : CR} {l : List Ft} {now : Int} {q : FT} {s : Stp}
end
section
variable {C : CR} {i u : Nat} {L : List Sv} {at' : Nat -> Int} {x E : Int} {ws : List Rd}
end
section
variable {C : CR} {i u : Nat} {L : List Sv} {x E y v n k p now : Int} {h : Int × Int × Int} {l : List Ft}
end
end Go.Proofs.YtnepnnkdgejheaaGreatDoor
namespace Go.Proofs.YtnepnnkdgejheaaGreatDoor
open Go.RowKit Tryz
end Go.Proofs.YtnepnnkdgejheaaGreatDoor
