
import Derived.Test.YtnepnnkdgejheaaGreatDoorKp44
set_option maxRecDepth 100000
set_option maxHeartbeats 20000000
namespace Go.Proofs.YtnepnnkdgejheaaGreatDoor
open Go.RowKit Plain Tryz
variable {A:List Value}{K f i j:Nat}{a:Addr}{u u' v0 w:V6}{v:Value}
theorem Cge{P:Program}{md:Region.Mode}{ops:Array Oper}{Q:Exit->Act->World->Prop}{w0:V6}{D:List Nat}{F:(Nat->Value)->Act}{S':V6->Prop}{listed0:Array Bool}{fuel:Nat}{r:List Ent}{z:List Value}{t:TypeId}{n:Nat}(i d j H:Nat)(V:Value->World->Prop){o:Oper}(h:∀X w,Bw w0 w->w.heap[X]?=some (.cells z.toArray t (0,0))->Calls P f #[Vf X 0 n n] w fun e w'=>∃v,e=.returned v/\V v w'/\Bw w w')(Z:∀v w w',V v w->Bw w w'->V v w')(k:Cb P md ops Q w0 D F S' listed0 fuel (⟨i,d,false,fun y w=>V (y d) w⟩::r))(Y:∀y w,AH [j] y w r->∃X,y H=Vf X 0 n n/\w.heap[X]?=some (.cells z.toArray t (0,0))/\w0.heap.size<=X:=by intro y w hF;exact hF.1)(ho:ops[i]?=some o:=by rfl)(hc:Yn md ops D listed0 [j] i d false r=true:=by kernel_rfl)(hw:∀y w,AH [j] y w r->Region.wanted o (yielded ops (F y).tmps)=true:=by intro y w hF;rfl)(hy:∀y w X,y H=Vf X 0 n n->(execOp (F y).eval o).run P w=.ok (.enter f #[Vf X 0 n n]) w:=by intro y w X hF;go_simp;(try first|with_reducible rfl|rfl)):
 Cb P md ops Q w0 D F S' listed0 fuel r:=
 Co i d [j] _ (fun y w hS hF K hK=>by
  obtain⟨X,e,G,_⟩:=Y y w hF;rw[if_pos (hw y w hF)]
  unfold Oper.wp
  rw[hy y w X e,Oper.upon_enter];obtain⟨_,_,_,T,ho',hd,_⟩:=Wb hc;rw[ho] at ho'
  cases ho'
  refine(h X w hS G).mono ?_;rintro e w' ⟨v,rfl,R,m⟩
  show K ((F y).put o.dst v) w'
  rw[hd]
  exact hK v w' m (by rw[show ups y d v d=v from if_pos rfl];exact R)) k (fun y y' w w' h ha m=>by rw[ha d (List.mem_cons_self ..)];exact Z _ _ _ h m) ho hc
def AT(a:Nat->Nat->Int)(i k:Nat)(n:Int):Nat->Nat->Int:=fun h y=>if h=i/\y=k then n else a h y
theorem Jna(a:Nat->Nat->Int)(g:Nat->Nat)(n:Int)(hi:i<2)(e:j<13)(h y m:Value):dkL true (crL (UC (AT a i (fo j) n) g)) h y m=(dkL true (crL (UC a g)) h y m).set (2+i*15+fo j) (Vi n):=by
 rcases Qtw i with rfl|rfl<;>rcases(show j=0\/j=1\/j=2\/j=3\/j=4\/j=5\/j=6\/j=7\/j=8\/j=9\/j=10\/j=11\/j=12 by omega) with rfl|rfl|rfl|rfl|rfl|rfl|rfl|rfl|rfl|rfl|rfl|rfl|rfl<;>rfl
theorem PD.setA{D:Nat}{g:Nat->Nat}{d:Dk}{sf ss sr:Value}(h:PD true K D g d sf ss sr u)(hi:i<2)(y:j<13)(n:Int):PD true K D g ⟨AT d.a i (fo j) n,d.ft,d.st,d.rp⟩ sf ss sr (u.setCell (Ad D (2+i*15+fo j)) (Vi n)):=
 have m:Below K u (u.setCell (Ad D (2+i*15+fo j)) (Vi n)):=((Dt.refl K u).set (j:=2+i*15+fo j) (x:=Vi n) h.bk h.kd).below h.lt
 ⟨h.kd,h.gk,PV (a:=d.a) h.ln m h.gk,by show Blk (tD true) _ D (dkL true (crL (UC (AT d.a i (fo j) n) g)) sf ss sr);rw[Jna d.a g n hi y];exact h.bk.set _ _,h.ft.set h.bk (by decide),h.st.set h.bk (by decide),h.rp.set h.bk (by decide)⟩
theorem Jqj:(prog.info? 125).map (·.size)=some 1:=by kernel_rfl
theorem Jjo(s:V7):∃fv:Value,fv.oneCell'=true/\(∀j,BE s=some j->fv=.func (.func (85+j)) #[] #[])/\∀(M:Nat) (u:V6),u.heap[M]?=some (.map Jfx 13)->(Instr.lookup 127 (.map (some M)) (.string s) true).run prog u=.ok (.tuple #[.agg #[fv],.bool (BE s).isSome]) u:=by
 have hl:=fun(M:Nat) (u:V6) (h:u.heap[M]?=some (.map Jfx 13))=>J8 (s:=s) underlying127 underlying9 h (Tryz.zeroValue125 u) (Jfz s)
 cases hj:BE s with
 |none=>exact⟨.nilFunc,rfl,fun j h=>by(first|cases h|simp at h),fun M u h=>by rw[hl M u h,hj];rfl⟩
 |some j=>exact⟨.func (.func (85+j)) #[] #[],rfl,fun k h=>by(first|(cases h;rfl)|simp_all),fun M u h=>by rw[hl M u h,hj];simp⟩
def WP(h y:V7)(a:Addr)(v:Value)(u:V6):Prop:=∃v6 v7,v=.tuple #[v6,v7]/\(((nC h&&nC y)=false/\v6=.slice none 0 0/\v7=eV a)\/((nC h&&nC y)=true/\∃q cc,v6=Vf q 0 2 cc/\v7=.nilIface/\N9 u q [nV h,nV y]))
theorem N9.lq{v:V6}{q:Nat}{l:V9}(h:N9 u q l)(y:Bw u v):N9 v q l:=fun j x hx=>cell_later y (h j x hx)
theorem WP.lq{s0 s2:V7}(h:WP s0 s2 a v u)(y:Bw u u'):WP s0 s2 a v u':=by
 obtain⟨j,m,e,h⟩:=h;refine⟨j,m,e,?_⟩
 rcases h with h|⟨h1,q,w,h2,h3,h4⟩
 . exact .inl h
 . exact .inr ⟨h1,q,w,h2,h3,h4.lq y⟩
theorem Jjp(y m:V7)(R:y.size<=100000)(T:m.size<=100000)(u:V6)(Z:GW K a u)(X:Nat)(Q:u.heap[X]?=some (.cells [Value.string y,Value.string m].toArray 9 (0,0))):
 Va 53 #[Vf X 0 2 2] u fun e w'=>∃v,e=.returned v/\WP y m a v w'/\Bw u w':=by
 have hs:TxL u (some (Ad X 0)) [y,m]:=⟨X,0,_,_,rfl,Q,fun j s w=>by
  rcases j with _|_|j
  . cases w;rfl
  . cases w;rfl
  . simp at w⟩
 have Y:∀s∈[y,m],s.size<=100000:=fun s h=>by
  simp only[List.mem_cons,List.not_mem_nil,or_false] at h
  rcases h with rfl|rfl<;>assumption
 have ha:[y,m].all nC=(nC y&&nC m):=by simp
 by_cases H:(nC y&&nC m)=true
 . refine(En K (some (Ad X 0)) 2 2 [nV y,nV m] [y,m] rfl Y (by rw[ha];exact H) rfl u Z hs).mono ?_;rintro e w' ⟨q,G,rfl,h1,h2⟩;exact⟨_,rfl,⟨_,_,rfl,.inr ⟨H,q,G,rfl,rfl,h1⟩⟩,h2⟩
 . have hq':(nC y&&nC m)=false:=by simpa using H
   refine(Nv (some (Ad X 0)) 2 [y,m] Y a u Z.eb hs (hn:=by show 2<=100000;omega)).mono ?_;rintro e w' ⟨h1,h2⟩;rw[if_neg (by rw[ha,hq'];simp)] at h1;exact⟨_,h1,⟨_,_,rfl,.inl ⟨hq',rfl,rfl⟩⟩,h2⟩
theorem WP.part{s0 s2:V7}{v6 v7:Value}(h:((nC s0&&nC s2)=false/\v6=.slice none 0 0/\v7=eV a)\/((nC s0&&nC s2)=true/\∃q y,v6=Vf q 0 2 y/\v7=.nilIface/\N9 u q [nV s0,nV s2]))(j:Bw u u'):((nC s0&&nC s2)=false/\v6=.slice none 0 0/\v7=eV a)\/((nC s0&&nC s2)=true/\∃q y,v6=Vf q 0 2 y/\v7=.nilIface/\N9 u' q [nV s0,nV s2]):=by
 rcases h with h|⟨h1,q,y,h2,h3,h4⟩
 . exact .inl h
 . exact .inr ⟨h1,q,y,h2,h3,h4.lq j⟩
def dtP(K D:Nat)(g:Nat->Nat)(d:Dk)(m H Z:Value)(h Y y:V7)(a:Addr)(w:V6)(e:Ending)(w':V6):Prop:=Dt K w w'/\(if(nC h&&nC y)=true/\0<=nV h/\nV h<=1/\(BE Y).isSome=true then ∃j,BE Y=some j/\e=.returned (.tuple #[.string okS,A8 (crE (UC (AT d.a (nV h).toNat (fo j) (nV y)) g))])/\PD true K D g ⟨AT d.a (nV h).toNat (fo j) (nV y),d.ft,d.st,d.rp⟩ m H Z w' else e=.returned (.tuple #[.string ⟨#[]⟩,eV a])/\PD true K D g d m H Z w')
theorem Jjq(K D:Nat)(g:Nat->Nat)(d:Dk)(R T J:Value)(p:V8)(c:Nat)(H G Y:V7)(z0:H.size<=100000)(z2:Y.size<=100000)(w:V6)(hg:GW K a w)(hs:TxL w p [H,G,Y])(h:PD true K D g d R T J w):
 Va 30 #[Ve D 0,.slice p 3 c] w (dtP K D g d R T J H G Y a w):=by
 obtain⟨gw,ow,rfl,_,hc⟩:=hs.at;have x0:=hc 0 H rfl;rw[Nat.add_zero] at x0;have x1:=hc 1 G rfl;have x2:=hc 2 Y rfl;obtain⟨N,hm,hn,hd⟩:=Jjo G;have Hl:=Za hn;have Hm:=Za hm;have Hh:=Za hd;generalize ho:(BE G).isSome=ok at Hh;have Hf:=Za ho;have O:=Za h;have HG:=Za hg;have Hn:=Za (fun(X:Nat) (u:V6) (m:Bw w u) hX=>Jjp H Y z0 z2 u (hg.lq m) X hX);clear hc hs h hg hn hm hd ho z0 z2
 go_enter func30,ntmps30
 go_upto_region 1 with fail;refine Cs [11,12,13,14,15,16,17,18,10,19,20,6,7] ?_;refine Cp 0 11 [] ?_;refine Cp 1 12 [0] ?_;refine Cq (V5 x0) 2 13 [1] ?_;refine Cp 3 14 [] ?_;refine Cp 4 15 [3] ?_;refine Cq (V5 x2) 5 16 [4] ?_;refine Cbs (z:=[.string H,.string Y]) (t:=9) (n:=2) 6 17 [2,5] ?_;refine Cge 7 18 6 17 (WP H Y a) (fun X u m hX=>Hn.o X u m hX) (fun v u I h m=>h.lq m) ?_;refine Cu (fun y=>y 18) 8 10 [7] ?_ (hy:=fun y w _ u=>by go_simp);refine Cu (fun y=>tg (y 10) 0) 9 19 [8,7] ?_ (hy:=fun y w hF u=>by obtain⟨hk,⟨v6,v7,e,-⟩,-⟩:=hF;simp only[show y 10=_ from hk.trans e];go_simp;rfl);refine Cu (fun y=>tg (y 10) 1) 10 20 [8,7] ?_ (hy:=fun y w hF u=>by obtain⟨hk,⟨v6,v7,e,-⟩,-⟩:=hF;simp only[show y 10=_ from hk.trans e];go_simp;rfl);refine Cu (fun y=>y 19) 11 6 [9] ?_ (hy:=fun y w _ u=>by go_simp);refine Cu (fun y=>y 20) 12 7 [10] ?_ (hy:=fun y w _ u=>by go_simp);refine Ce (fun y u1 Q P=>?_);obtain⟨v6,v7,e,hW⟩:=P.2.2.2.2.2.1;simp only[e,tg];have HW:=Za hW;have Z:=Za Q;replace x1:=cell_later Q x1;clear Q P e hW Hn x0 x2;go_simp;generalize u1=v1 at *;refine Ek ?_
 go_upto_region 2 with fail;refine Cs [22,23,24,25,26,21,27,28,8] ?_;refine Cd 0 22 [] (fun v u=>∃M,v=.map (some M)/\u.heap[M]?=some (.map Jfx 13)) (fun y u _ _=>(WF u).mono (by rintro e w' ⟨rfl,rfl⟩;exact⟨_,rfl,⟨_,rfl,World.alloc_heap_new u _⟩,(Below.refl _ _).alloc (Nat.le_refl _) _⟩)) (fun v u I h m=>by obtain⟨M,e,h⟩:=h;exact⟨M,e,(m.block M (Array.getElem?_eq_some_iff.1 h).1).trans h⟩) ?_;refine Cp 1 23 [] ?_;refine Cp 2 24 [1] ?_;refine Cq (V5 x1) 3 25 [2] ?_;refine Cv 4 26 [0,3] (fun y _=>y 26=.tuple #[.agg #[N],.bool ok]) ?_ ?_
 . intro y u _ hF;refine⟨.tuple #[.agg #[N],.bool ok],u,?_,Below.refl _ _,if_pos rfl⟩;obtain⟨h3,⟨M,e,hM⟩,-⟩:=hF;have hl:=Hh.o M u hM;simp only[show y 22=_ from e,show y 25=_ from h3];go_simp
 refine Cp 5 21 [4] ?_;refine Cp 6 27 [5] ?_;refine Cp 7 28 [5] ?_;refine Ca 8 8 ?_;refine Cn 2 11 [9,10] (fun y U Q P=>?_);obtain⟨A,e,hA,hp⟩:=P.1;(try simp only[e]);have Hi:Hd (Blk 125 U A [.nilFunc]):=Za hA;have Hs:=Za hp;have Ho:=Za Q;clear P e hA hp Q;refine Ra 9 (fun K hK=>?_);rw[if_pos (by rfl)];refine Z2 125 (.tmp 8) (.tmp 27) rfl A 0 #[N] rfl rfl (Hi.o.there (o:=0) (n:=1) (by decide)) Jqj (by simp[Hm.o]) rfl ?_;have B:=Za (Zo [N] 0 U Ho.o Hs.o);have Hg:Hd (Blk 125 (U.setCells A 0 [N]) A [N]):=Za (Blk.setCells [N] 0 U _ Hi.o);refine hK.out _ _ B.o (fun _=>?_);clear hK K Hi Ho;refine Th 10 rfl (by intro w hu;clear hu;go_simp;(try with_reducible rfl)) B.o ?_;simp only[Act.put,Ly];refine Dn ?_;go_simp;generalize U.setCells A 0 _=v2 at *;refine Ek ?_;replace HW:=Za (WP.part HW.o B.o);replace Z:=Za (Zc Z.o B.o);clear B Hh x1
 rcases HW.o with⟨C,rfl,rfl⟩|⟨C,q,cc,rfl,rfl,h9⟩
 case inl=>
  have E:Hd (∀u,Bw w u->dtP K D g d R T J H G Y a w (.returned (.tuple #[.string ⟨#[]⟩,eV a])) u):=Za (fun u m=>⟨Dt.of m,by rw[if_neg (fun h=>by rw[C] at h;exact absurd h.1 (by decide))];exact⟨rfl,O.o.lq m⟩⟩);clear C HW
  go_upto_region 4 with fail;have hc:=(HG.o.lq Z.o).eb;go_quiet (fail);go_wp2;go_ret2;exact E.o _ (below_drewN Z.o _)
 case inr=>
  have F:=Za h9;clear HW h9;have c0:=F.o 0 _ rfl;have L:=Yy (nV H) 0 1
  cases ok
  case false=>
   have E:Hd (∀u,Bw w u->dtP K D g d R T J H G Y a w (.returned (.tuple #[.string ⟨#[]⟩,eV a])) u):=Za (fun u m=>⟨Dt.of m,by rw[if_neg (fun h=>by rw[Hf.o] at h;exact absurd h.2.2.2 (by decide))];exact⟨rfl,O.o.lq m⟩⟩);clear C
   go_upto_region 4 with fail;have hc:=(HG.o.lq Z.o).eb;go_quiet (fail);go_wp2;go_ret2;exact E.o _ (below_drewN Z.o _)
  case true=>
   by_cases hr:0<=nV H/\nV H<=1
   case neg=>
    have E:Hd (∀u,Bw w u->dtP K D g d R T J H G Y a w (.returned (.tuple #[.string ⟨#[]⟩,eV a])) u):=Za (fun u m=>⟨Dt.of m,by rw[if_neg (fun h=>hr ⟨h.2.1,h.2.2.1⟩)];exact⟨rfl,O.o.lq m⟩⟩)
    have W:A1 (nV H) 0 1=false:=by unfold A1;by_cases q:0<=nV H<;>simp[q]<;>omega
    rw[W] at L;clear C hr W
    go_upto_region 4 with(go_at_call 55;refine Sb (L _) fun v3 m=>?_;replace Z:=Za (Zc Z.o m);clear m);have hc:=(HG.o.lq Z.o).eb;go_quiet (fail);go_wp2;go_ret2;exact E.o _ (below_drewN Z.o _)
   case pos=>
    obtain⟨i,hi⟩:∃i:Nat,nV H=i:=⟨(nV H).toNat,by omega⟩
    have ht:i<2:=by omega
    obtain⟨j,hj⟩:=Option.isSome_iff_exists.1 Hf.o;have ha:j<13:=(List.findIdx?_eq_some_iff_getElem.1 hj).1
    have W:A1 (nV H) 0 1=true:=by unfold A1;simp;omega
    rw[W] at L;obtain rfl:=Hl.o j hj;have E:Hd (∀I,Dt K w I->PD true K D g ⟨AT d.a i (fo j) (nV Y),d.ft,d.st,d.rp⟩ R T J I->dtP K D g d R T J H G Y a w (.returned (.tuple #[.string okS,A8 (crE (UC (AT d.a i (fo j) (nV Y)) g))])) I):=Za (fun I h1 h2=>⟨h1,by rw[if_pos ⟨C,hr.1,hr.2,Hf.o⟩,show(nV H).toNat=i by omega];exact⟨j,hj,rfl,h2⟩⟩);rw[hi] at L c0 F
    have i0:(0:Int)<=(i:Int):=by omega
    have i1:(i:Int)<2:=by omega
    have Hj:Hd (i<2/\j<13):=Za ⟨ht,ha⟩;have hv:=Jc7 j ha;have Ht:=Za (WG j ha D (2+i*15));generalize nV Y=n2 at *;clear C hr W hi hj ht ha Hf Hl Hm
    go_upto_region 5 with(go_at_call 55;refine Sb (L _) fun v3 m=>?_;replace Z:=Za (Zc Z.o m);replace F:=Za (F.o.lq m);replace Hg:=Za (Hg.o.lq m);clear m c0);have Hp:=Za (O.o.lq Z.o);have f0:=(Hg.o.cell (j:=0) rfl).1;have c0:=F.o 0 _ rfl;have c1:=F.o 1 _ rfl;clear F Hg O L;refine Ct [43,44,45,46,47,48,49,50,51,52,53,54,55,56,57] ?_;refine Cp 0 43 [] ?_;refine Cy (V5 f0) 1 44 [0] ?_;refine Cp 2 45 [] ?_;refine Cp 3 46 [] ?_;refine Cp 4 47 [3] ?_;refine Cy (V5 c0) 5 48 [4] ?_;refine Cp 6 49 [2] ?_;refine Cp 7 50 [6] ?_;refine Cp 8 51 [7] ?_;refine Cp 9 52 [5,8] ?_;refine Cc 10 53 [1,9] (fun y w h _=>Yc (Ht.o w)) ?_;refine Cp 11 54 [] ?_;refine Cp 12 55 [11] ?_;refine Cy (V5 c1) 13 56 [12] ?_;refine Cp 14 57 [10] ?_;refine Cn 1 16 [15] (fun y u3 Q P=>?_);have Hc:=Za (Hp.o.lq Q);have Hq:=Za (Zc Z.o Q);clear P Q Hp Z f0 c0 c1;refine Ra 15 (fun K9 hK=>?_);obtain⟨x,hx⟩:∃x,(dkL true (crL (UC d.a g)) R T J)[2+i*15+fo j]?=some x:=⟨_,List.getElem?_eq_getElem (by show 2+i*15+fo j<35;have:=Hj.o;unfold fo;split<;>omega)⟩;obtain⟨e,e1⟩:=Hc.o.bk.cell hx;clear hx;go_simp;refine hK.out _ _ trivial (fun _=>?_);clear hK K9;refine Dn ?_;have Hk:=Za (Hc.o.setA Hj.o.1 Hj.o.2 n2);have Hr:=Za ((Dt.of (K:=K) Hq.o).set (j:=2+i*15+fo j) (x:=Vi n2) Hc.o.bk Hc.o.kd);clear e e1 Hc Hq;generalize u3.setCell _ _=v5 at *;have Hu:=Za (Xz Hk.o.bk 2 32 (UY _ _ _ _ (X4 _)));have Hv:=Za (N5 (UC (AT d.a i (fo j) n2) g) v5 (HG.o.dt Hr.o).gv Hk.o.ln);refine Ek ?_
    go_wp2_with (first
     |(refine EM 41 _ rfl ?_;refine wpList_load_mid rfl 41 (.tmp 60) rfl D 2 rfl (crL (UC (AT d.a i (fo j) n2) g)) _ Hu.o underlying41 rfl Zr ?_)
     |(go_at_call 56;refine Hv.o.mono ?_;rintro e v6 ⟨rfl,m⟩))
    go_ret2;exact E.o _ (Hr.o.lq m) (Hk.o.lq m)
def erI(e:Int):Prop:=0<=e/\e<=5
theorem erI.ok{e:Int}(h:erI e):okI e:=by unfold erI at h;unfold okI;omega
theorem Jci{e:Nat->Int}:∀{n:Nat},(∀j,j<n->erI (e j))->erI (AA e n)
 |0,_=>by unfold AA erI;omega
 |n+1,h=>by
  unfold AA
  split
  . exact h n (by omega)
  . exact Jci (fun j y=>h j (by omega))
theorem M0:∀{l:V9},(∀x∈l,erI x)->erI (Zk l)
 |[],_=>by simp[Zk,erI]
 |x::l,h=>by
  simp only[Zk]
  split
  . exact M0 (fun y hy=>h y (.tail _ hy))
  . exact h x (.head _)
theorem ZK(C:CR)(f:Ft):erI (ftE C f):=by unfold ftE erI;split<;>omega
theorem Q5(C:CR)(s:Stp):erI (AW C s):=by unfold AW erI;split<;>omega
theorem Jjr(z:V9):∀k,erI (gaU z k)
 |0=>by unfold gaU erI;omega
 |k+1=>by
  unfold gaU
  refine M0 (fun x hx=>?_);simp only[List.mem_cons,List.not_mem_nil,or_false] at hx
  rcases hx with rfl|rfl
  . exact Jjr z k
  . unfold erI;split<;>omega
theorem Jql(L H U B M:Int)(al zl:V9):erI (ruE L H U B M al zl):=by
 unfold ruE
 split
 . exact Jjr _ _
 . unfold r0E
   refine M0 (fun x hx=>?_);simp only[List.mem_cons,List.not_mem_nil,or_false] at hx
   rcases hx with rfl|rfl|rfl
   . unfold erI;split<;>omega
   . unfold erI;split<;>omega
   . unfold Ym Yp Z6 erI;(repeat' split)<;>omega
theorem Jjs(h y j m e w H Z Y X ha Q hc:Int)(al zl:V9):∀k,erI (eAx h y j m e w H Z Y X ha Q hc al zl k)
 |0=>by show erI (rgE _ _);unfold rgE erI;(repeat' split)<;>omega
 |1=>by show erI (Ya _ _);unfold Ya erI;(repeat' split)<;>omega
 |2=>by show erI (arE _ _ _ _);unfold arE erI;(repeat' split)<;>omega
 |3=>by show erI (grE _ _ _ _ _ _);unfold grE erI;(repeat' split)<;>omega
 |4=>by show erI (ruE _ _ _ _ _ _ _);exact Jql _ _ _ _ _ _ _
 |_+5=>by show erI (fmE _ _ _ _);unfold fmE erI;(repeat' split)<;>omega
theorem ZL(C:CR):erI (crE C):=by
 unfold crE
 refine Jci (fun j _=>?_)
 unfold eCr
 split
 . exact Jjs _ _ _ _ _ _ _ _ _ _ _ _ _ _ _ _
 . split
   . exact Jjs _ _ _ _ _ _ _ _ _ _ _ _ _ _ _ _
   . unfold Ya erI;split<;>omega
theorem Jjt(C:CR)(l:List Ft)(h:List Stp):∀k,erI (fl1 C l h k)
 |0=>by
  unfold fl1 fl0
  refine M0 (fun x hx=>?_);simp only[List.mem_cons,List.not_mem_nil,or_false] at hx
  rcases hx with rfl|rfl
  . exact ZL C
  . unfold erI;split<;>omega
 |k+1=>by
  unfold fl1
  split
  . exact ZK _ _
  . exact Jjt C l h k
theorem Jju(C:CR)(l:List Ft)(h:List Stp):∀k,erI (fl2 C l h k)
 |0=>by unfold fl2;exact Jjt _ _ _ _
 |k+1=>by
  unfold fl2
  split
  . exact Q5 _ _
  . exact Jju C l h k
theorem Jjv(C:CR)(l:List Ft)(h:List Stp):erI (AM C l h):=Jju _ _ _ _
abbrev g0:Nat->Nat:=fun _=>0
abbrev gS(ws:List V7)(k:Nat):ByteArray:=ws.getD k ⟨#[]⟩
abbrev gN(ws:List V7)(k:Nat):Int:=nV (gS ws k)
def ZM(k:Nat):Nat:=[3,5,9,0,1,0,0].getD k 0
def setA(d:Dk)(h y j:V7):Dk×ByteArray:=
 if(nC h&&nC j)=true/\0<=nV h/\nV h<=1/\(BE y).isSome=true then
  (⟨AT d.a (nV h).toNat (fo ((BE y).getD 0)) (nV j),d.ft,d.st,d.rp⟩,Yt (crE (UC (AT d.a (nV h).toNat (fo ((BE y).getD 0)) (nV j)) g0)))
 else(d,AN)
def Ws(d:Dk)(f:Ft):Dk×ByteArray:=if ftE (UC d.a g0) f=0 then(⟨d.a,d.ft++[f],d.st,d.rp⟩,okS) else(d,Yt (ftE (UC d.a g0) f))
def BL(d:Dk)(s:Stp)(y h:Int):Dk×ByteArray:=
 if(0<=y/\y<=1)/\1<=h/\h<=300 then(if AW (UC d.a g0) s=0 then(⟨d.a,d.ft,d.st++List.replicate h.toNat s,d.rp⟩,okS) else(d,Yt (AW (UC d.a g0) s))) else(d,AN)
def MF(d:Dk):Dk×ByteArray:=if AM (UC d.a g0) d.ft d.st=0 then(⟨d.a,d.ft,d.st,rpU (UC d.a g0) d.ft d.st d.st.length⟩,itB d.st.length) else(d,Yt (AM (UC d.a g0) d.ft d.st))
def atA(d:Dk)(s:V7):ByteArray:=if nC s=true then(if 0<=nV s/\nV s<d.rp.length then(match d.rp[(nV s).toNat]? with|some r=>BJ (rpV r)|none=>AN) else Yt 1) else AN
def Q6(d:Dk):ByteArray:=match d.rp with|[]=>Yt 5|r::_=>BJ (edL d.rp r)
def act(k:Nat)(d:Dk)(ws:List V7):Dk×ByteArray:=
 if k=0 then setA d (gS ws 0) (gS ws 1) (gS ws 2)
 else if k=1 then(if ws.all nC=true then Ws d (gN ws 0,gN ws 1,gN ws 2,gN ws 3,gN ws 4) else(d,AN))
 else if k=2 then(if ws.all nC=true then BL d (AQ (gN ws 0) (gN ws 1) (gN ws 2) (gN ws 3) (gN ws 4) (gN ws 5) (gN ws 6) (gN ws 7)) (gN ws 7) (gN ws 8) else(d,AN))
 else if k=3 then MF d
 else if k=4 then(d,atA d (gS ws 0))
 else if k=5 then(d,Q6 d)
 else(⟨d.a,[],[],[]⟩,okS)
def DoP(K D:Nat)(g:Nat->Nat)(x:Dk×ByteArray)(a:Addr)(w:V6)(e:Ending)(w':V6):Prop:=Dt K w w'/\(∃sf ss sr,PD true K D g x.1 sf ss sr w')/\∃s v,e=.returned (.tuple #[.string s,v])/\((v=.nilIface/\s=x.2)\/(v=eV a/\x.2=AN)\/(∃n,okI n/\n≠0/\v=.iface 22 (Vi n)/\x.2=Yt n))
section
variable {K D : Nat} {g : Nat -> Nat} {x : Dk × ByteArray} {a : Addr} {w w' : World} {sf ss sr : Value} {e : Ending}
theorem DoP.okA{s:V7}(hd:Dt K w w')(h:PD true K D g x.1 sf ss sr w')(y:e=.returned (.tuple #[.string s,.nilIface]))(hs:s=x.2):DoP K D g x a w e w':=⟨hd,⟨_,_,_,h⟩,_,_,y,.inl ⟨rfl,hs⟩⟩
theorem DoP.bad{s:V7}(hd:Dt K w w')(h:PD true K D g x.1 sf ss sr w')(y:e=.returned (.tuple #[.string s,eV a]))(hs:x.2=AN):DoP K D g x a w e w':=⟨hd,⟨_,_,_,h⟩,_,_,y,.inr (.inl ⟨rfl,hs⟩)⟩
theorem DoP.err{s:V7}{n:Int}(hd:Dt K w w')(h:PD true K D g x.1 sf ss sr w')(y:e=.returned (.tuple #[.string s,A8 n]))(hn:erI n)(h0:n≠0)(hs:x.2=Yt n):DoP K D g x a w e w':=⟨hd,⟨_,_,_,h⟩,_,_,y,.inr (.inr ⟨n,hn.ok,h0,Zv h0,hs⟩)⟩
end
theorem Jqm(K D:Nat)(g:Nat->Nat)(d:Dk)(sf ss sr:Value)(p:V8)(c:Nat)(y H m:V7)(X:y.size<=100000)(Q:m.size<=100000)(w:V6)(G:GW K a w)(hs:TxL w p [y,H,m])(h:PD true K D g d sf ss sr w):
 Va 30 #[Ve D 0,.slice p 3 c] w (DoP K D g (setA d y H m) a w):=by
 refine(Jjq K D g d sf ss sr p c y H m X Q w G hs h).mono ?_;rintro e w' ⟨hd,h2⟩
 unfold setA
 by_cases hc:(nC y&&nC m)=true/\0<=nV y/\nV y<=1/\(BE H).isSome=true
 . rw[if_pos hc] at h2|-;obtain⟨j,R,Z,Y⟩:=h2;rw[Joa _ g g0] at Z;rw[R,Option.getD_some]
   by_cases h0:crE (UC (AT d.a (nV y).toNat (fo j) (nV m)) g0)=0
   . rw[h0] at Z|-;exact .okA hd Y Z rfl
   . exact .err hd Y Z (ZL _) h0 rfl
 . rw[if_neg hc] at h2|-;exact .bad hd h2.2 h2.1 rfl
theorem Jjw(K D:Nat)(g:Nat->Nat)(d:Dk)(m:Nat)(hd:DI d m)(X:m<=10000)(sf ss sr:Value)(p:V8)(c:Nat)(ws:List V7)(h5:ws.length=5)(j:∀s∈ws,s.size<=100000)(w:V6)(H:GW K a w)(hs:TxL w p ws)(h:PD true K D g d sf ss sr w):
 Va 31 #[Ve D 0,.slice p 5 c] w (DoP K D g (if ws.all nC=true then Ws d (gN ws 0,gN ws 1,gN ws 2,gN ws 3,gN ws 4) else(d,AN)) a w):=by
 by_cases hn:ws.all nC=true
 . have y:ws.map nV=[gN ws 0,gN ws 1,gN ws 2,gN ws 3,gN ws 4]:=by
    match ws,h5 with
    |[_,_,_,_,_],_=>rfl
   refine(ZF K D g d m hd X sf ss sr p c _ _ _ _ _ ws h5 j hn y w H hs h).mono ?_;rintro e w' ⟨h1,h2⟩;rw[if_pos hn]
   unfold Ws
   rw[Job _ g g0] at h2;generalize (gN ws 0,gN ws 1,gN ws 2,gN ws 3,gN ws 4)=f at h2|-
   by_cases h0:ftE (UC d.a g0) f=0
   . rw[if_pos h0] at h2|-;obtain⟨y,sf',Q⟩:=h2;exact .okA h1 Q y rfl
   . rw[if_neg h0] at h2|-;exact .err h1 h2.2 h2.1 (ZK _ _) h0 rfl
 . have hn':ws.all nC=false:=by simpa using hn
   rw[if_neg hn];have Z:=ZE K D p c ws (by omega) j hn' w H hs;rw[h5] at Z;refine Z.mono ?_;rintro e w' ⟨y,Y⟩;exact .bad (.of Y) (h.lq Y) y rfl
theorem Jnc(K D:Nat)(g:Nat->Nat)(d:Dk)(m:Nat)(hd:DI d m)(X:m<=10000)(sf ss sr:Value)(p:V8)(c:Nat)(ws:List V7)(h5:ws.length=9)(H:∀s∈ws,s.size<=100000)(w:V6)(Z:GW K a w)(hs:TxL w p ws)(h:PD true K D g d sf ss sr w):
 Va 32 #[Ve D 0,.slice p 9 c] w (DoP K D g (if ws.all nC=true then BL d (AQ (gN ws 0) (gN ws 1) (gN ws 2) (gN ws 3) (gN ws 4) (gN ws 5) (gN ws 6) (gN ws 7)) (gN ws 7) (gN ws 8) else(d,AN)) a w):=by
 by_cases hn:ws.all nC=true
 . have y:ws.map nV=[gN ws 0,gN ws 1,gN ws 2,gN ws 3,gN ws 4,gN ws 5,gN ws 6,gN ws 7,gN ws 8]:=by
    match ws,h5 with
    |[_,_,_,_,_,_,_,_,_],_=>rfl
   rw[if_pos hn]
   unfold BL
   by_cases ho:(0<=gN ws 7/\gN ws 7<=1)/\1<=gN ws 8/\gN ws 8<=300
   . rw[if_pos ho];refine(Jez K D g d m hd X sf ss sr p c _ _ _ _ _ _ _ _ _ ws h5 H hn y ho.1 ho.2 w Z hs h).mono ?_;rintro e w' ⟨h1,h2⟩;rw[Joc _ g g0] at h2;generalize AQ (gN ws 0) (gN ws 1) (gN ws 2) (gN ws 3) (gN ws 4) (gN ws 5) (gN ws 6) (gN ws 7)=s at h2|-
     by_cases h0:AW (UC d.a g0) s=0
     . rw[if_pos h0] at h2|-;obtain⟨y,ss',Q⟩:=h2;exact .okA h1 Q y rfl
     . rw[if_neg h0] at h2|-;exact .err h1 h2.2 h2.1 (Q5 _ _) h0 rfl
   . rw[if_neg ho];refine(Jey K D p c _ _ _ _ _ _ _ _ _ ws h5 H hn y ho w Z hs).mono ?_;rintro e w' ⟨y,j⟩;exact .bad (.of j) (h.lq j) y rfl
 . have hn':ws.all nC=false:=by simpa using hn
   rw[if_neg hn];have Y:=Jex K D p c ws (by omega) H hn' w Z hs;rw[h5] at Y;refine Y.mono ?_;rintro e w' ⟨y,j⟩;exact .bad (.of j) (h.lq j) y rfl
theorem Jqn(K D:Nat)(g:Nat->Nat)(d:Dk)(sf ss sr ws:Value)(w:V6)(j:GW K a w)(h:PD true K D g d sf ss sr w):
 Va 33 #[Ve D 0,ws] w (DoP K D g (MF d) a w):=by
 obtain⟨m,H,rfl⟩:=h.ft.slice;obtain⟨Z,Y,rfl⟩:=h.st.slice
 unfold MF
 rw[Ji2 _ g0 g,Jod _ g0 g]
 by_cases h0:AM (UC d.a g) d.ft d.st=0
 . rw[if_pos h0];refine(Jmy K D g d m H Z Y sr ws h0 w j h).mono ?_;rintro e w' ⟨y,⟨sr',Q⟩,hd⟩;exact .okA hd Q y rfl
 . rw[if_neg h0];refine(Jjb K D g d m H Z Y sr ws h0 w j.gv h).mono ?_;rintro e w' ⟨y,X⟩;exact .err (.of X) (h.lq X) y (Jjv _ _ _) h0 rfl
theorem Jsb(K D:Nat)(g:Nat->Nat)(d:Dk)(m:Nat)(hd:DI d m)(sf ss sr:Value)(p:V8)(c:Nat)(s:V7)(H:s.size<=100000)(w:V6)(Z:GW K a w)(hs:TxL w p [s])(h:PD true K D g d sf ss sr w):
 Va 34 #[Ve D 0,.slice p 1 c] w (DoP K D g (d,atA d s) a w):=by
 obtain⟨Y,cr,rfl⟩:=h.rp.slice;refine(Jqh K D g d m hd sf ss Y cr p c s H w Z hs h).mono ?_;rintro e w' ⟨y,h2⟩
 unfold atA
 by_cases hn:nC s=true
 . rw[if_pos hn] at h2|-
   by_cases j:0<=nV s/\nV s<d.rp.length
   . rw[if_pos j] at h2|-;obtain⟨r,j,X⟩:=h2;rw[j];exact .okA (.of y) (h.lq y) X rfl
   . rw[if_neg j] at h2|-;exact .err (.of y) (h.lq y) h2 (by unfold erI;omega) (by decide) rfl
 . rw[if_neg hn] at h2|-;exact .bad (.of y) (h.lq y) h2 rfl
theorem Jjx(K D:Nat)(g:Nat->Nat)(d:Dk)(m:Nat)(hd:DI d m)(sf ss sr ws:Value)(w:V6)(Z:GW K a w)(h:PD true K D g d sf ss sr w):
 Va 35 #[Ve D 0,ws] w (DoP K D g (d,Q6 d) a w):=by
 obtain⟨H,cr,rfl⟩:=h.rp.slice
 cases hr:d.rp with
 |nil=>
  refine(Jjm K D g d sf ss H cr hr ws w h).mono ?_;rintro e w' ⟨j,y⟩;exact .err (n:=5) (.of y) (h.lq y) j (by unfold erI;omega) (by decide) (by unfold Q6;rw[hr])
 |cons r l=>
  refine(Jjn K D g d m hd sf ss H cr r (by rw[hr];rfl) ws w Z h).mono ?_;rintro e w' ⟨j,y⟩;exact .okA (.of y) (h.lq y) j (by unfold Q6;rw[hr])
theorem Jjy(K D:Nat)(g:Nat->Nat)(d:Dk)(sf ss sr ws:Value)(w:V6)(h:PD true K D g d sf ss sr w):
 Va 36 #[Ve D 0,ws] w (DoP K D g (⟨d.a,[],[],[]⟩,okS) a w):=
 (Jen K D g d sf ss sr ws w h).mono (by rintro e w' ⟨y,j,hd⟩;exact .okA hd j y rfl)
def Jjz:List V7:=[setS,Wu,BS,RZ,atS,C0,C1]
def Q7(s:V7):Option Nat:=Jjz.findIdx? (s==·)
abbrev Jqo(k:Nat):Value:=.agg #[Vi (ZM k:Nat),.func (.func (30+k)) #[] #[]]
theorem Jj0(s:V7):Instr.findNow .string (.string s) J9.toList 0=some ((Q7 s).map fun j=>(0+j,Jqo (0+j))):=DG s Jqo Jjz 0 _ rfl
theorem Jj1(s:V7)(M:Nat)(u:V6)(h:u.heap[M]?=some (.map J9 7)):(Instr.lookup 54 (.map (some M)) (.string s) true).run prog u=.ok (.tuple #[((Q7 s).map Jqo).getD (.agg #[Vi 0,.nilFunc]),.bool (Q7 s).isSome]) u:=by
 rw[J8 (s:=s) underlying54 underlying9 h (Tryz.zeroValue86 u) (Jj0 s)]
 cases Q7 s<;>simp
theorem Jj2(j:Nat)(h:j<7)(args:Array Value)(w:V6):(callFunc (30+j) args).run prog w=.ok (.enter (30+j) args) w:=by
 rcases(show j=0\/j=1\/j=2\/j=3\/j=4\/j=5\/j=6 by omega) with rfl|rfl|rfl|rfl|rfl|rfl|rfl<;>kernel_rfl
theorem ws1{l:List V7}(h:l.length=1):l=[gS l 0]:=by
 match l,h with
 |[_],_=>rfl
theorem ws3{l:List V7}(h:l.length=3):l=[gS l 0,gS l 1,gS l 2]:=by
 match l,h with
 |[_,_,_],_=>rfl
theorem Jqp(k:Nat)(hk:k<7)(K D:Nat)(g:Nat->Nat)(d:Dk)(m:Nat)(hd:DI d m)(Q:m<=10000)(y j H:Value)(p:V8)(c:Nat)(ws:List V7)(hl:ws.length=ZM k)(Z:∀s∈ws,s.size<=100000)(w:V6)(Y:GW K a w)(hs:ws≠[]->TxL w p ws)(h:PD true K D g d y j H w):
 Va (30+k) #[Ve D 0,.slice p ws.length c] w (DoP K D g (act k d ws) a w):=by
 have hs':0<ws.length->TxL w p ws:=fun q=>hs (by rintro rfl;cases q)
 rcases(show k=0\/k=1\/k=2\/k=3\/k=4\/k=5\/k=6 by omega) with rfl|rfl|rfl|rfl|rfl|rfl|rfl
 . have hl:ws.length=3:=hl;have X:=hs' (by omega);have e:=ws3 hl;rw[hl];rw[e] at X Z;exact Jqm K D g d y j H p c _ _ _ (Z _ (by simp)) (Z _ (by simp)) w Y X h
 . have hl:ws.length=5:=hl;rw[hl];exact Jjw K D g d m hd Q y j H p c ws hl Z w Y (hs' (by omega)) h
 . have hl:ws.length=9:=hl;rw[hl];exact Jnc K D g d m hd Q y j H p c ws hl Z w Y (hs' (by omega)) h
 . exact Jqn K D g d y j H _ w Y h
 . have hl:ws.length=1:=hl;have X:=hs' (by omega);have e:=ws1 hl;rw[hl];rw[e] at X Z;exact Jsb K D g d m hd y j H p c _ (Z _ (by simp)) w Y X h
 . exact Jjx K D g d m hd y j H _ w Y h
 . exact Jjy K D g d y j H _ w h
theorem VK(tmps:Array Value)(U:V6)(Y:Nat)(h:List Value)(x:Value)(h2:tmps.getD 6 undef=Ve Y 0)(h5:tmps.getD 7 undef=x)(y:U.rangeAt Y 0 h)(hn:h.length=15):
 (results Tryz.f43 tmps).run prog U=.ok (.tuple #[.agg h.toArray,x]) U:=by
 have h3:tmps[6]?.getD undef=Ve Y 0:=by simpa using h2
 have h4:tmps[7]?.getD undef=x:=by simpa using h5
 simp[results,results43,h3,h4,asAddr,run_loadVar_mid U Y 0 38 h _ y underlying38 rfl (by rw[Zq,hn])]
theorem Joe{s k:V7}(h:(s==k)=true):s=k:=by
 have h:s.data=k.data:=eq_of_beq (show(s.data==k.data)=true from h);exact ByteArray.ext h
theorem Jj3{s k:V7}(h:(s==k)=false):(s.toList==k.data.toList)=false:=by
 rw[toL];apply Bool.eq_false_iff.2;intro q
 have q:s.data.toList=k.data.toList:=by simpa using q
 have y:s=k:=ByteArray.ext (Array.toList_inj.1 q);subst y;rw[show(s==s)=(s.data==s.data) from rfl] at h
 simp at h
def axS(s:V7)(n:Int)(L:List Value):List Value:=match BE s with|some j=>L.set (fo j) (Vi n)|none=>L
theorem Q8{s:V7}(h:BE s=some j):j<13/\Jfy[j]?=some s:=by
 obtain⟨y,h1,_⟩:=List.findIdx?_eq_some_iff_getElem.1 h;exact⟨y,by rw[List.getElem?_eq_getElem y,Joe h1]⟩
abbrev zA:List Value:=Qbi
structure WI (w v0:V6) (A:List Value):Prop where
 k:Blk 38 v0 w.heap.size A
 r:Blk 38 v0 (w.heap.size+1) zA
 b:Bw w v0
theorem Jj4(w:V6)(A:List Value):WI w ((w.alloc (.cells A.toArray 38)).alloc (.cells zA.toArray 38)) A:=by
 have hn:(w.alloc (.cells A.toArray 38)).heap.size=w.heap.size+1:=by simp
 have h:=Blk.new (w.alloc (.cells A.toArray 38)) 38 zA;rw[hn] at h;exact⟨(Blk.new w 38 A).lq Vc,h,Zc Vc Vc⟩
theorem WI.cell(h:WI w v0 A)(y:A[f]?=some v):V1 v0 w f v/\v0.frozen? (Ad w.heap.size f)=false:=h.k.cell y
theorem WI.set(h:WI w v0 A)(f:Nat)(x:Value):WI w (v0.setCell (Ad w.heap.size f) x) (A.set f x):=
 ⟨h.k.set f x,h.r.far (Nat.succ_ne_self w.heap.size) f x,Zo [x] f v0 h.b (Nat.le_refl w.heap.size)⟩
theorem WI.put(h:WI w v0 A)(y:A.length=15):Blk 38 (v0.setCells (w.heap.size+1) 0 A) (w.heap.size+1) A/\Bw w (v0.setCells (w.heap.size+1) 0 A):=
 ⟨by have k:=Blk.setCells A 0 v0 _ h.r;rwa[U1 A zA (by rw[y];rfl)] at k,Zo A 0 v0 h.b (Nat.le_succ w.heap.size)⟩
theorem Jqq(C:CR)(i f:Nat)(n:Int):((axL C i).set f (Vi n)).all (·.oneCell')=true:=by
 refine List.all_eq_true.2 fun x hx=>?_
 rcases List.mem_or_eq_of_mem_set hx with hx|rfl
 . exact List.all_eq_true.1 (show(axL C i).all (·.oneCell')=true from rfl) x hx
 . rfl
theorem Jnd(C:CR)(i:Nat)(s:V7)(n:Int)(h:BE s=none)(w:V6):Va 43 #[.agg (axL C i).toArray,.string s,Vi n] w (Rt w (.tuple #[.agg (axL C i).toArray,.bool false])):=by
 have hs:∀k∈Jfy,(s.toList==k.data.toList)=false:=fun k hk=>Jj3 (List.findIdx?_eq_none_iff.1 h k hk);simp only[Jfy,List.mem_cons,List.not_mem_nil,or_false,forall_eq_or_imp,forall_eq] at hs;obtain⟨m,e,H,Z,Y,X,Q,G,R,T,s10,s11,s12⟩:=hs;clear h;have HW:=Za (Jj4 w (axL C i))
 go_enter func43,ntmps43
 go_upto_region 1 with fail
 change Code.wp _ _ _ _ ((w.alloc (.cells (axL C i).toArray 38)).alloc (.cells zA.toArray 38))
 generalize (w.alloc (.cells (axL C i).toArray 38)).alloc (.cells zA.toArray 38)=v0 at*
 go_wp2_with (first
  |(refine EM 38 _ rfl ?_;refine wpList_load_mid rfl 38 (.tmp 3) rfl w.heap.size 0 rfl (axL C i) _ HW.o.k.range underlying38 rfl Zq ?_)
  |(refine CS 38 _ _ rfl ?_;refine wpList_plain rfl fun y hK=>?_;refine Z2 38 (.tmp 6) (.tmp 9) rfl (w.heap.size+1) 0 (axL C i).toArray rfl rfl (HW.o.r.there (o:=0) (n:=15) (by decide)) Zq (Zm _ rfl) rfl ?_;refine hK _ _ ?_;clear hK y))
 obtain⟨ha,j⟩:=HW.o.put rfl;exact bodyPost_ret (v:=.tuple #[.agg (axL C i).toArray,.bool false]) (VK _ _ (w.heap.size+1) (axL C i) _ rfl rfl ha.range rfl) rfl ⟨rfl,j⟩
theorem Jqr(C:CR)(i:Nat)(n:Int)(w:V6)(s:V7)(j f:Nat)(h:(j=0/\f=0/\s=⟨#[108,111]⟩)\/(j=1/\f=1/\s=⟨#[104,105]⟩)\/(j=2/\f=2/\s=⟨#[110,111,105,115,101]⟩)\/(j=3/\f=3/\s=⟨#[112,117,115,104]⟩)\/(j=4/\f=4/\s=⟨#[115,117,114,102,97,99,101,115]⟩)\/(j=5/\f=5/\s=⟨#[116,114,97,118,101,108]⟩)\/(j=6/\f=6/\s=⟨#[114,97,116,101]⟩)\/(j=7/\f=7/\s=⟨#[115,108,97,99,107]⟩)\/(j=8/\f=8/\s=⟨#[108,105,109,105,116]⟩)\/(j=9/\f=9/\s=⟨#[99,111,110,102,105,114,109]⟩)\/(j=10/\f=10/\s=⟨#[119,97,116,99,104]⟩)\/(j=11/\f=11/\s=⟨#[116,117,114,110]⟩)\/(j=12/\f=14/\s=⟨#[98,117,105,108,100]⟩)):Va 43 #[.agg (axL C i).toArray,.string s,Vi n] w (Rt w (.tuple #[.agg ((axL C i).set f (Vi n)).toArray,.bool true])):=by
 have HW:=Za (Jj4 w (axL C i));have e:=Za (fun v0 (k:WI w v0 (axL C i))=>k.set f (Vi n));have H:=Za (fun v0 (k:WI w v0 (axL C i)) v (Z:(axL C i)[f]?=some v)=>k.cell Z);have Y:=Za (Jqq C i f n);have y:Hd (((axL C i).set f (Vi n)).length=15):=Za (by rw[List.length_set];rfl);generalize ha:(axL C i).set f (Vi n)=AX at *;clear ha
 rcases h with⟨rfl,rfl,rfl⟩|⟨rfl,rfl,rfl⟩|⟨rfl,rfl,rfl⟩|⟨rfl,rfl,rfl⟩|⟨rfl,rfl,rfl⟩|⟨rfl,rfl,rfl⟩|⟨rfl,rfl,rfl⟩|⟨rfl,rfl,rfl⟩|⟨rfl,rfl,rfl⟩|⟨rfl,rfl,rfl⟩|⟨rfl,rfl,rfl⟩|⟨rfl,rfl,rfl⟩|⟨rfl,rfl,rfl⟩
 all_goals
  go_enter func43,ntmps43
  go_upto_region 1 with fail
  change Code.wp _ _ _ _ ((w.alloc (.cells (axL C i).toArray 38)).alloc (.cells zA.toArray 38))
  generalize (w.alloc (.cells (axL C i).toArray 38)).alloc (.cells zA.toArray 38)=v0 at *;obtain⟨X,Q⟩:=H.o v0 HW.o _ rfl;have m:=Za (e.o v0 HW.o)
  go_upto_region 29 with fail;clear X Q e H HW;generalize v0.setCell _ _=v1 at*
  go_wp2_with (first
   |(refine EM 38 _ rfl ?_;refine wpList_load_mid rfl 38 (.tmp 3) rfl w.heap.size 0 rfl AX _ m.o.k.range underlying38 rfl (by rw[y.o];exact Zq) ?_)
   |(refine CS 38 _ _ rfl ?_;refine wpList_plain rfl fun G hK=>?_;refine Z2 38 (.tmp 6) (.tmp 62) rfl (w.heap.size+1) 0 AX.toArray rfl rfl (m.o.r.there (o:=0) (n:=AX.toArray.size) (by rw[List.size_toArray,y.o];decide)) (by rw[List.size_toArray,y.o];exact Zq) (Zm _ Y.o) rfl ?_;refine hK _ _ ?_;clear hK G))
  obtain⟨R,hc⟩:=m.o.put y.o;exact bodyPost_ret (v:=.tuple #[.agg AX.toArray,.bool true]) (VK _ _ (w.heap.size+1) AX _ rfl rfl R.range y.o) rfl ⟨rfl,hc⟩
theorem Jj5(C:CR)(i:Nat)(s:V7)(n:Int)(w:V6):Va 43 #[.agg (axL C i).toArray,.string s,Vi n] w (Rt w (.tuple #[.agg (axS s n (axL C i)).toArray,.bool (BE s).isSome])):=by
 unfold axS
 cases h:BE s with
 |none=>exact Jnd C i s n h w
 |some j=>
  obtain⟨y,h1⟩:=Q8 h;refine Jqr C i n w s j (fo j) ?_
  rcases(show j=0\/j=1\/j=2\/j=3\/j=4\/j=5\/j=6\/j=7\/j=8\/j=9\/j=10\/j=11\/j=12 by omega) with rfl|rfl|rfl|rfl|rfl|rfl|rfl|rfl|rfl|rfl|rfl|rfl|rfl<;>(obtain rfl:=Option.some.inj h1;simp[fo])
end Go.Proofs.YtnepnnkdgejheaaGreatDoor
