
import Derived.Test.YtnepnnkdgejheaaGreatDoorKp41
import Derived.Test.YtnepnnkdgejheaaGreatDoorKp43
set_option maxRecDepth 100000
set_option maxHeartbeats 20000000
namespace Go.Proofs.YtnepnnkdgejheaaGreatDoor
open Go.RowKit Plain Tryz
variable {K:Act->World->Prop}{N k m n:Nat}{P:Program}{Q:Exit->Act->World->Prop}{a:Addr}{l:List Rp}{o op:Oper}{ops:Array Oper}{r:Rp}{rest:List Oper}{t:TypeId}{w:V6}
theorem CS{a:Act}(t:TypeId)(x y:Operand)(_ho:op.op=.store t x y)(h:wpList P ops Q (op::rest) a w):wpList P ops Q (op::rest) a w:=h
theorem U5{a:Act}{c:Array Value}(t:TypeId)(j:List Value)(x y:Operand)(ho:op.op=.store t x y)(hi:(prog.info? t).map (·.size)=some j.length)(h1:j.all (·.oneCell')=true)(h:wpList prog ops Q rest (a.put op.dst undef) (w.alloc (.cells j.toArray t)))(ha:op.guard=none:=by rfl)(hx:a.eval x=Ve w.heap.size 0:=by rfl)(hy:a.eval y=.agg j.toArray:=by rfl)(hc:c.size=j.toArray.size:=by rfl):wpList prog ops Q (op::rest) a (w.alloc (.cells c t)):=
 wpList_plain ha fun _ hK=>by
  unfold Oper.wp execOp
  simp only[ho,hx,hy,Sem.run_bind,Sem.run_pure,Result.andThen_ok,run_storeAt_new w t c j.toArray (by rw[hi];simp) hc (Zm j h1)];exact hK _ _ h
def atP(d:Dk)(s:V7)(a:Addr)(w:V6)(e:Ending)(w':V6):Prop:=Bw w w'/\(if nC s then(if 0<=nV s/\nV s<d.rp.length then ∃r,d.rp[(nV s).toNat]?=some r/\e=.returned (.tuple #[.string (BJ (rpV r)),.nilIface]) else e=.returned (.tuple #[.string ⟨#[]⟩,A8 1])) else e=.returned (.tuple #[.string ⟨#[]⟩,eV a]))
theorem Jqh(K D:Nat)(g:Nat->Nat)(d:Dk)(m:Nat)(hd:DI d m)(E F:Value)(I:V8)(cr:Nat)(p:V8)(c:Nat)(s:V7)(hz:s.size<=100000)(w:V6)(M:GW K a w)(hs:TxL w p [s])(h:PD true K D g d E F (.slice I d.rp.length cr) w):
 Va 34 #[Ve D 0,.slice p 1 c] w (atP d s a w):=by
 obtain⟨gw,ow,rfl,_,hc⟩:=hs.at;have L:=hc 0 s rfl;rw[Nat.add_zero] at L;have ha:=IZ s (by omega) (eV a) w M.eb;have T:=Za h;have O:=Za M;have hl:=hd.rn;clear hc hs h M
 cases hq:nC s
 case false=>
  rw[show BD s.data.toList=false from hq] at ha
  go_enter func34,ntmps34
  go_wp2_with (go_at_call 61;refine ha.mono ?_;rintro e v1 ⟨rfl,y⟩);go_ret2;exact⟨y,by rw[hq];rfl⟩
 case true=>
  rw[show BD s.data.toList=true from hq,if_pos rfl] at ha
  have hw:IntKind.i64.wrap ((d.rp.length:Int)-1)=(d.rp.length:Int)-1:=by rw[Xj]<;>omega
  have Q:=Yy (nV s) 0 ((d.rp.length:Int)-1)
  by_cases hr:0<=nV s/\nV s<d.rp.length
  case neg=>
   have G:A1 (nV s) 0 ((d.rp.length:Int)-1)=false:=by unfold A1;by_cases q:0<=nV s<;>simp[q]<;>omega
   rw[G] at Q;have N:Hd (∀w',Bw w w'->atP d s a w (.returned (.tuple #[.string ⟨#[]⟩,A8 1])) w'):=Za (fun w' y=>⟨y,by rw[hq,if_pos rfl,if_neg hr]⟩);clear hr G
   go_enter func34,ntmps34
   go_wp2_with (first
    |(go_at_call 61;refine ha.mono ?_;rintro e v1 ⟨rfl,y⟩;have H:=Za y;have c2:=((T.o.lq y).bk.cell (j:=34) rfl).1;clear y)
    |(go_at_call 55;refine Sb (Q _) fun v2 R=>?_))
   go_ret2;exact N.o _ (Zc H.o R)
  case pos=>
   obtain⟨n,hn⟩:∃n:Nat,nV s=n:=⟨(nV s).toNat,by omega⟩
   have G:A1 (nV s) 0 ((d.rp.length:Int)-1)=true:=by unfold A1;simp;omega
   rw[G,hn] at Q
   have hi:n<d.rp.length:=by omega
   obtain⟨r,J⟩:∃r,d.rp[n]?=some r:=⟨d.rp[n],List.getElem?_eq_getElem hi⟩;have N:Hd (∀w',Bw w w'->atP d s a w (.returned (.tuple #[.string (BJ (rpV r)),.nilIface])) w'):=Za (fun w' y=>⟨y,by rw[hq,if_pos rfl,if_pos hr];exact⟨r,by rw[hn];simpa using J,rfl⟩⟩);obtain⟨U,rfl,_,P⟩:=Row.at U3 T.o.rp (fun e=>by rw[e] at hi;cases hi);have C:=Za (P n r J);have A:=Za (hd.rp r (List.mem_of_getElem? J));rw[show LF s.data.toList=(n:Int) from hn] at ha
   have n0:(0:Int)<=(n:Int):=by omega
   have n1:(n:Int)<(d.rp.length:Int):=by omega
   clear hr G P J hn hi
   go_enter func34,ntmps34
   go_upto_region 7 with(first
    |(go_at_call 61;refine ha.mono ?_;rintro e v1 ⟨rfl,y⟩;have H:=Za y;have c2:=((T.o.lq y).bk.cell (j:=34) rfl).1;clear y)
    |(go_at_call 55;refine Sb (Q _) fun v2 R=>?_;replace H:=Za (Zc H.o R);replace c2:=cell_later R c2;clear R)
    |(refine EM 75 _ rfl ?_;refine wpList_load_mid rfl 75 (.tmp 34) rfl U (n*15) rfl (rpL r) _ (Zf C.o H.o) underlying75 rfl Xn ?_)
    |(refine CS 75 _ _ rfl ?_;refine U5 75 (rpL r) (.tmp 8) (.tmp 35) rfl Xn rfl ?_))
   rename World=>Y;have Z:Hd (Blk 75 (Y.alloc (.cells (rpL r).toArray 75)) Y.heap.size (rpL r)):=Za (Blk.new Y _ _);replace H:=Za (Zc H.o (Zb Y (.cells (rpL r).toArray 75)));clear c2 Q ha C T;generalize Y.alloc (.cells (rpL r).toArray 75)=v4 at *;generalize Y.heap.size=X at *;have y0:=(Z.o.cell (j:=0) rfl).1;have y1:=(Z.o.cell (j:=1) rfl).1;have y2:=(Z.o.cell (j:=2) rfl).1;have y3:=(Z.o.cell (j:=3) rfl).1;have y4:=(Z.o.cell (j:=4) rfl).1;have y5:=(Z.o.cell (j:=5) rfl).1;have y6:=(Z.o.cell (j:=6) rfl).1;have hk:=Zb v4 (.cells ((rpV r).map (Value.int .i64)).toArray 3);have ho:=Zhr (some (Ad v4.heap.size 0)) 7 (rpV r) (show 7<=1000 by decide) (by simp[rpV]) (fun n hn=>by have:=A.o n hn;unfold okI;omega) _ (O.o.lq (Zc H.o hk)) ⟨_,0,rfl,by simp,fun j x hx=>((Blk.new v4 3 ((rpV r).map (Value.int .i64))).cell (by rw[Nat.zero_add,List.getElem?_map,hx];rfl)).1⟩;have B:=Za ho;have W:=Za hk;clear ho hk
   go_wp2_with (go_at_call 62;refine B.o.mono ?_;rintro e v5 ⟨rfl,hp⟩);go_ret2;exact N.o _ (Zc (Zc H.o W.o) hp)
theorem ZD{α:Type}{f:α->List Value}{st:TypeId}{z:Value}{by':Nat}{a:Act}{B:Nat}{u:V6}{s:Value}{rs rs':List α}{X c:Nat}(y e:Operand)(hc:prog.underlying st=some (.slice t))(hi:(prog.info? t).map (fun i=>(i.zero,i.size,i.bytes))=some (some z,m,by'))(ho:o.op=.call { callee:=.builtin .append,args:=#[y,e],argTypes:=#[st,st] })(hx:a.eval e=Vf X 0 n c)(ha:Row f m t B u s rs)(w:B<=u.heap.size)(hy:u.rangeAt X 0 (rs'.flatMap f))(hn:rs'.length=n)(h0:0<n)(H:∀a,(f a).length=m)(h1:∀a,∀v∈f a,v.oneCell'=true)(Z:rs.length+n<=10000000)(h:∀s' u',Row f m t B u' s' (rs++rs')->u.grownBy u' s.ownBlock->K (a.put o.dst s') u')(hd:0<m:=by decide)(Y:z.cells.size=m:=by rfl)(G:by'<=1000:=by decide)(hs:a.eval y=s:=by rfl):o.wp prog a u K Q:=by
 obtain⟨R,hk,T,J,M⟩:=info_parts hi
 have hl:∀l:List α,(l.flatMap f).length=l.length*m:=fun l=>by
  induction l with
  |nil=>simp
  |cons x l N=>rw[List.flatMap_cons,List.length_append,H,N,List.length_cons,Nat.succ_mul];omega
 have P:(rs.length+n)*by'<=140737488355328:=Nat.le_trans (Nat.mul_le_mul Z G) (by decide)
 refine wp_append_lies _ y e st ho B t R z m by' hc hk T J M Y hd _ _ _ hs ha ⟨X,0,none⟩ n c (rs'.flatMap f) hx (by rw[hl,hn]) (fun j v D=>by rw[Addr.add_lit];exact hy j v D) (fun v C=>?_) h0 (by unfold maxLen;omega) P w _ rfl ?_
 . obtain⟨x,_,hx⟩:=List.mem_flatMap.1 C;exact h1 x v hx
 . intro F I u8 hw E _ _;refine h _ _ ?_ E
   unfold Row
   rw[List.length_append,List.flatMap_append,hn];exact hw
theorem VG:(prog.info? 64).map (fun i=>(i.zero,i.size,i.bytes))=some (some (.agg #[Vi 0,Vi 0,Vi 0,Vi 0,Vi 0]),5,40):=by kernel_rfl
theorem VH(r:Ft):∀v∈ftL r,v.oneCell'=true:=fun v h=>List.all_eq_true.1 (show(ftL r).all (·.oneCell')=true from rfl) v h
theorem ZE(K D:Nat)(p:V8)(c:Nat)(ws:List V7)(h5:ws.length<=1000)(y:∀s∈ws,s.size<=100000)(hn:ws.all nC=false)(w:V6)(j:GW K a w)(hs:TxL w p ws):
 Va 31 #[Ve D 0,.slice p ws.length c] w (Rt w (.tuple #[.string ⟨#[]⟩,eV a])):=by
 have ha:Va 53 #[.slice p ws.length c] w (Rt w (.tuple #[.slice none 0 0,eV a])):=(Nv p c ws y a w j.eb hs).mono fun e w' h=>by
  obtain⟨h1,h2⟩:=h;rw[if_neg (by rw[hn];simp)] at h1;exact⟨h1,h2⟩
 clear j hs hn y
 go_enter func31,ntmps31
 go_wp2_with (go_at_call 53;refine ha.mono ?_;rintro e v1 ⟨rfl,m⟩);go_ret2;exact⟨rfl,m⟩
def dfP(K D:Nat)(g:Nat->Nat)(d:Dk)(j h y:Value)(f:Ft)(w:V6)(e:Ending)(w':V6):Prop:=Dt K w w'/\(if ftE (UC d.a g) f=0 then e=.returned (.tuple #[.string okS,.nilIface])/\∃sf',PD true K D g ⟨d.a,d.ft++[f],d.st,d.rp⟩ sf' h y w' else e=.returned (.tuple #[.string ⟨#[]⟩,A8 (ftE (UC d.a g) f)])/\PD true K D g d j h y w')
theorem ZF(K D:Nat)(g:Nat->Nat)(d:Dk)(m:Nat)(hd:DI d m)(hm:m<=10000)(I L O:Value)(p:V8)(c:Nat)(n0 n1 H Z n4:Int)(ws:List V7)(h5:ws.length=5)(hz:∀s∈ws,s.size<=100000)(hn:ws.all nC=true)(he:ws.map nV=[n0,n1,H,Z,n4])(w:V6)(hg:GW K a w)(hs:TxL w p ws)(h:PD true K D g d I L O w):
 Va 31 #[Ve D 0,.slice p 5 c] w (dfP K D g d I L O (n0,n1,H,Z,n4) w):=by
 have hj:Va 53 #[.slice p 5 c] w fun e w'=>∃q U,e=.returned (.tuple #[Vf q 0 5 U,.nilIface])/\(∀j x,[n0,n1,H,Z,n4][j]?=some x->V2 w' q j x)/\Bw w w':=(h5▸Nv p c ws hz a w hg.eb hs:Va 53 #[.slice p 5 c] w (NbP w ws a)).mono fun e w' h=>by
  obtain⟨h1,h2⟩:=h;rw[if_pos hn,he] at h1;obtain⟨s,rfl,hi⟩:=h1;obtain⟨q,U,rfl⟩:=hi.slice;obtain⟨gg,rfl,_,hl⟩:=Row.at (f:=iL) (m:=1) (fun _=>rfl) hi (by simp);exact⟨gg,U,rfl,fun j x hx=>by have:=hl j x hx 0 _ rfl;simpa using this,h2⟩
 have Hm:=Za (KW (UC d.a g) (n0,n1,H,Z,n4) (fun i _=>by have:=hd.a i 4;show d.a i 4<=_;omega));have HP:=Za h;have HL:=Za hd.ft;clear hg hs hn hz h h5 he hd
 go_enter func31,ntmps31
 go_upto_region 4 with(go_at_call 53;refine hj.mono ?_;rintro e v1 ⟨q,U,rfl,ha,hb⟩);have T:=Za hb;have G:=Za (HP.o.lq hb);have x0:=ha 0 n0 rfl;have x1:=ha 1 n1 rfl;have x2:=ha 2 H rfl;have x3:=ha 3 Z rfl;have x4:=ha 4 n4 rfl;clear hj ha hb HP;refine Cs [18,19,20,21,22,23,24,25,26,27,28,29,30,31,32,33,8] ?_;refine Cp 0 18 [] ?_;refine Cp 1 19 [0] ?_;refine Cq (V5 x0) 2 20 [1] ?_;refine Cp 3 21 [] ?_;refine Cp 4 22 [3] ?_;refine Cq (V5 x1) 5 23 [4] ?_;refine Cp 6 24 [] ?_;refine Cp 7 25 [6] ?_;refine Cq (V5 x2) 8 26 [7] ?_;refine Cp 9 27 [] ?_;refine Cp 10 28 [9] ?_;refine Cq (V5 x3) 11 29 [10] ?_;refine Cp 12 30 [] ?_;refine Cp 13 31 [12] ?_;refine Cq (V5 x4) 14 32 [13] ?_;refine Cp 15 33 [2,5,8,11,14] ?_;refine Ca (z:=[Vi 0,Vi 0,Vi 0,Vi 0,Vi 0]) (t:=64) 16 8 ?_;refine Cn 1 18 [17] (fun y J Y M=>?_);obtain⟨N,e,hA,hc⟩:=M.1;(try simp only[e]);have Hk:Hd (Blk 64 J N [Vi 0,Vi 0,Vi 0,Vi 0,Vi 0]):=Za hA;have Ht:=Za hc;have P:=Za Y;clear M e hA hc Y x0 x1 x2 x3 x4;refine Ra 17 (fun K hK=>?_);rw[if_pos (by rfl)];refine Z2 64 (.tmp 8) (.tmp 33) rfl N 0 (ftL (n0,n1,H,Z,n4)).toArray rfl rfl (Hk.o.there (o:=0) (n:=5) (by decide)) W7 (Zm _ rfl) rfl ?_;have A:=Za (Zo (ftL (n0,n1,H,Z,n4)) 0 J P.o Ht.o);have B:Hd (Blk 64 (J.setCells N 0 (ftL (n0,n1,H,Z,n4))) N (ftL (n0,n1,H,Z,n4))):=Za (Blk.setCells (ftL (n0,n1,H,Z,n4)) 0 J _ Hk.o);refine hK.out _ _ A.o (fun _=>?_);clear hK K Hk P;refine Dn ?_;go_simp;generalize J.setCells N 0 _=v2 at *;refine Ek ?_;replace T:=Za (Zc T.o A.o);replace G:=Za (G.o.lq A.o);have Hn:=Za (Xz G.o.bk 2 32 (UY _ _ _ _ (X4 _)));have C:=Za B.o.range;clear A
 go_upto_region 5 with fail;refine Cs [34,35,36,37,38,39,9] ?_;refine Cp 0 34 [] ?_;refine Cp 1 35 [0] ?_;refine Cp 2 36 [1] ?_;refine Cl (x:=.tmp 36) 3 37 [2] (fun y w hF u hh=>⟨Zf Hn.o hh,hF.1⟩) underlying41 Zr ?_;refine Cl (x:=.tmp 8) 4 38 [] (fun y w _ u hh=>⟨Zf C.o hh,rfl⟩) underlying64 W7 ?_;refine Cc 5 39 [3,4] (fun y w h _=>Hm.o _) ?_;refine Cp 6 9 [5] ?_;refine Ce (fun y F Y M=>?_);have P:=Za Y;clear Y M;go_simp;have Y:=P.o;clear P;generalize F=v3 at Y|-;refine Ek ?_;replace T:=Za (Zc T.o Y);replace G:=Za (G.o.lq Y);replace B:=Za (B.o.lq Y);clear Y Hn C Hm
 by_cases hE:ftE (UC d.a g) (n0,n1,H,Z,n4)=0
 case neg=>
  rw[Zv hE];have W:Hd (dfP K D g d I L O (n0,n1,H,Z,n4) w (.returned (.tuple #[.string ⟨#[]⟩,A8 (ftE (UC d.a g) (n0,n1,H,Z,n4))])) v3):=Za ⟨Dt.of T.o,by rw[if_neg hE];exact⟨rfl,G.o⟩⟩;rw[Zv hE] at W;generalize ftE (UC d.a g) (n0,n1,H,Z,n4)=E at *;go_wp2_with fail;go_ret2;exact W.o
 case pos=>
  rw[hE,Z0]
  go_upto_region 8 with fail;have c0:=(G.o.bk.cell (j:=0) rfl).1;have C:=Za B.o.range;refine Ct [43,44,45,46,47,48,49,50] ?_;refine Cp 0 43 [] ?_;refine Cp 1 44 [] ?_;refine Cp 2 45 [1] ?_;refine Cp 3 46 [2] ?_;refine Cp 4 47 [3] ?_;refine Cy (V5 c0) 5 48 [4] ?_;refine Cr (x:=.tmp 8) 6 49 [] (fun y w h _=>⟨Zf C.o h,rfl⟩) underlying64 W7 ?_;refine Cbs (z:=ftL (n0,n1,H,Z,n4)) (t:=64) (n:=1) 7 50 [6] ?_;refine Cn 5 13 [8,9,10,11,12] (fun y J Y M=>?_);obtain⟨X,e,hX,hc⟩:=M.1;(try simp only[e]);have Ho:Hd (Blk 64 J X (ftL (n0,n1,H,Z,n4))):=Za hX;have Q:=Za (G.o.lq Y);have Hp:=Za (Zc T.o Y);clear M e hX hc Y c0 C G T;refine Ra 8 (fun K9 hK=>?_);rw[if_pos (by rfl)];refine ZD (rs':=[(n0,n1,H,Z,n4)]) (.tmp 48) (.tmp 50) underlying43 VG rfl rfl Q.o.ft Q.o.lt Ho.o.range rfl (by decide) KZ VH (by have:=HL.o;omega) ?_;intro s' F hR hG;obtain⟨ps',cs',rfl⟩:=hR.slice;rw[show(d.ft++[(n0,n1,H,Z,n4)]).length=d.ft.length+1 by simp] at hR|-;have HR:=Za hR;have Hq:=Za ((Dt.of Hp.o).row Q.o.ft hG);have R:=Za (Q.o.bk.kept Q.o.ft hG (by decide));have Hr:=Za (Q.o.st.kept Q.o.ft hG);have Hs:=Za (Q.o.rp.kept Q.o.ft hG);have Hl:=Za (Q.o.ft.below Q.o.lt hG);clear hR hG Ho;refine hK.out _ _ trivial (fun _=>?_);clear hK K9;(try simp only[Act.put]);refine Tq 9 trivial ?_;simp only[Act.put,Ly];refine Tq 10 trivial ?_;simp only[Act.put,Ly];refine Tq 11 trivial ?_;simp only[Act.put,Ly];refine Ra 12 (fun K9 hK=>?_);obtain⟨e,e1⟩:=R.o.cell (j:=0) rfl;go_simp;refine hK.out _ _ trivial (fun _=>?_);clear hK K9;refine Dn ?_
  have W:Hd (dfP K D g d I L O (n0,n1,H,Z,n4) w (.returned (.tuple #[.string okS,.nilIface])) (F.setCell (Ad D 0) (.slice ps' (d.ft.length+1) cs'))):=Za (by
   have hk:=Q.o.kd;have dd:=Hq.o.set (j:=0) (x:=.slice ps' (d.ft.length+1) cs') R.o hk;refine⟨dd,?_⟩;rw[if_pos hE]
   refine⟨rfl,_,Q.o.upd (d':=⟨d.a,d.ft++[(n0,n1,H,Z,n4)],d.st,d.rp⟩) rfl (R.o.set 0 _) (Wi Hl.o ((Dt.refl K F).set (j:=0) R.o hk |>.below (Nat.le_trans Q.o.lt Hl.o.size))) (HR.o.set R.o (by decide)) (Hr.o.set R.o (by decide)) (Hs.o.set R.o (by decide))⟩)
  clear R Hr Hs Hl HR Hq e e1 Q Hp;generalize F.setCell _ _=v5 at *;go_simp;refine Ek ?_;go_wp2_with fail;go_ret2;exact W.o
theorem Q3(w:V6)(dT X Q elem:TypeId)(b o Z dCap:Nat)(a:Addr)(ns sCap y m:Nat)(h:List Value)(G:P.underlying dT=some (.slice elem))(hs:(P.info? elem).map (·.size)=some y)(R:Nat.min ns Z=m)(hn:h.length=m*y)(ha:∀j v,h[j]?=some v->w.cell? (a.add j)=some v)(Y:w.there b o h.length)(h1:∀v∈h,v.oneCell'=true):
 (Builtin.copy_ #[dT,X] Q #[Vf b o Z dCap,.slice (some a) ns sCap]).run P w=.ok (goInt m) (w.setCells b o h):=by
 have hl:=run_loadCells_list (P:=P) w a h ha;have T:=run_storeCells_cells (P:=P) b o h 0 w (by simpa using fun j e=>(Y j e).1) (by simpa using fun j e=>(Y j e).2) h1
 cases H:P.info? elem with
 |none=>simp[H] at hs
 |some i=>
  have hi:i.size=y:=by simpa[H] using hs
  simp only[Builtin.copy_,List.getElem?_toArray,List.getElem?_cons_zero,List.getElem?_cons_succ]
  simp[run_underlying G,Builtin.lenOf,Builtin.firstCells,sizeOf,typeInfo,H,hi,R,<-hn,hl,T]
theorem GZ{a:Act}(d s:Operand)(dT:TypeId)(ho:o.op=.call { callee:=.builtin .copy,args:=#[d,s],argTypes:=#[dT,dT] })(elem:TypeId)(Y:P.underlying dT=some (.slice elem))(e:Nat)(hc:(P.info? elem).map (·.size)=some e)(g off H dCap:Nat)(Z:Addr)(ns sCap m:Nat)(hd:a.eval d=Vf g off H dCap)(hs:a.eval s=.slice (some Z) ns sCap)(X:Nat.min ns H=m)(y:List Value)(hn:y.length=m*e)(ha:∀j v,y[j]?=some v->w.cell? (Z.add j)=some v)(G:w.there g off y.length)(h1:∀v∈y,v.oneCell'=true)(h:K (a.put o.dst (goInt m)) (w.setCells g off y)):o.wp P a w K Q:=by
 have R:=Q3 (P:=P) w dT dT o.type elem g off H dCap Z ns sCap e m y Y hc X hn ha G h1
 unfold Oper.wp
 simp[execOp,ho,resolve,invoke,builtin,hd,hs,R,Result.andThen]
 exact h
theorem Jsq{a:Act}(d s:Operand)(_ho:op.op=.call { callee:=.builtin .copy,args:=#[d,s],argTypes:=#[44,44] })(h:wpList P ops Q (op::rest) a w):wpList P ops Q (op::rest) a w:=h
theorem VI:∀(y A B C:List Value),B.length=y.length->B8 (A++B++C) A.length y=A++y++C
 |[],A,B,C,h=>by simp[List.eq_nil_of_length_eq_zero h,B8]
 |v::r,A,[],C,h=>by simp at h
 |v::r,A,b::B,C,h=>by
  have e:(A++(b::B)++C).set A.length v=(A++[v])++B++C:=by simp
  have k:=VI r (A++[v]) B C (by simpa using h);rw[B8,e];rw[List.length_append,List.length_singleton] at k;rw[k]
  simp
def rpC(s:Stp)(N k:Nat):List Value:=(List.replicate k s++List.replicate (N-k) stD).flatMap A6
theorem W9(l:List Stp):(l.flatMap A6).length=l.length*8:=by
 induction l with
 |nil=>rfl
 |cons x l h=>rw[List.flatMap_cons,List.length_append,h,Uo,List.length_cons];omega
theorem Jch(s:Stp)(hk:k+m<=N):B8 (rpC s N k) (k*8) ((List.replicate m s).flatMap A6)=rpC s N (k+m):=by
 unfold rpC
 rw[show N-k=m+(N-(k+m)) by omega,<-List.replicate_append_replicate,List.flatMap_append,List.flatMap_append,<-List.append_assoc];have h:=VI ((List.replicate m s).flatMap A6) ((List.replicate k s).flatMap A6) ((List.replicate m stD).flatMap A6) ((List.replicate (N-(k+m)) stD).flatMap A6) (by rw[W9,W9];simp);rw[W9,List.length_replicate] at h;rw[h,<-List.replicate_append_replicate,List.flatMap_append,List.flatMap_append]
theorem FU:(prog.info? 70).map (fun i=>(i.zero,i.size,i.bytes))=some (some (.agg #[Vi 0,Vi 0,Vi 0,Vi 0,Vi 0,Vi 0,Vi 0,.bool false]),8,64):=by kernel_rfl
theorem Jm8(N:Nat):madeCells #[Vi 0,Vi 0,Vi 0,Vi 0,Vi 0,Vi 0,Vi 0,.bool false] (N*8)=(rpC stD N 0).toArray:=by
 apply Array.ext_getElem?;intro j;rw[show(rpC stD N 0).toArray[j]?=(rpC stD N 0)[j]? from by simp]
 by_cases h1:j<N*8
 . have e:=Nu Uo (List.replicate N stD) (j/8) (j%8) stD (by rw[List.getElem?_replicate,if_pos (by omega)]) (by omega);rw[show j/8*8+j%8=j by omega] at e
   have y:(rpC stD N 0)[j]?=(A6 stD)[j%8]?:=by unfold rpC;simpa using e
   rw[y]
   have m:∀z:Array Value,(madeCells z (N*8))[j]?=some z[j%z.size]!:=fun z=>by simp[madeCells,h1]
   rw[m]
   show some _[j%8]! =_
   rcases(show j%8=0\/j%8=1\/j%8=2\/j%8=3\/j%8=4\/j%8=5\/j%8=6\/j%8=7 by omega) with h|h|h|h|h|h|h|h<;>rw[h]<;>rfl
 . rw[Array.getElem?_eq_none (by rw[size_madeCells];omega),List.getElem?_eq_none (by unfold rpC;rw[W9];simp;omega)]
theorem ZG(n:Nat)(hn:n<=1000)(w:V6):(Instr.makeSlice 44 (Vi (n:Int)) (Vi (n:Int))).run prog w=.ok (Vf w.heap.size 0 n n) (w.alloc (.cells (rpC stD n 0).toArray 70)):=by
 obtain⟨h,y,h0,h1,h2⟩:=info_parts FU;have g:=run_make (P:=prog) (w:=w) 44 70 h _ underlying44 y h0 .i64 .i64 (n:Int) (n:Int) (by omega) (by omega) (by rw[h2];omega) (by omega);rw[h1,Int.toNat_natCast] at g;rw[<-Jm8];exact g
theorem Jm9(s:Stp)(hk:m<=k):∀(j:Nat) (v:Value),((List.replicate m s).flatMap A6)[j]?=some v->(rpC s N k)[j]?=some v:=fun j v h=>by
 have hl:=(List.getElem?_eq_some_iff.1 h).1;rw[W9,List.length_replicate] at hl;have y:=Nu Uo (List.replicate m s) (j/8) (j%8) s (by rw[List.getElem?_replicate,if_pos (by omega)]) (by omega);have e:=Nu Uo (List.replicate k s++List.replicate (N-k) stD) (j/8) (j%8) s (by rw[List.getElem?_append_left (by simp;omega),List.getElem?_replicate,if_pos (by omega)]) (by omega);rw[show j/8*8+j%8=j by omega] at y e
 unfold rpC
 rw[e,<-y,h]
theorem Mz(r:Stp):∀v∈A6 r,v.oneCell'=true:=fun v h=>List.all_eq_true.1 (show(A6 r).all (·.oneCell')=true from rfl) v h
theorem Jqi(l:List Stp):∀v∈l.flatMap A6,v.oneCell'=true:=fun v h=>by
 obtain⟨x,_,hx⟩:=List.mem_flatMap.1 h;exact Mz x v hx
theorem ZH(X:Nat)(s:Stp)(N:Nat)(h1:1<=N)(hN:N<=300)(w:V6)(hx:Blk 70 w X (A6 s)):
 Va 59 #[Vf X 0 1 1,Vi N] w fun e w'=>∃G,e=.returned (Vf G 0 N N)/\Blk 70 w' G ((List.replicate N s).flatMap A6)/\w.heap.size<=G/\Bw w w':=by
 have ha:=Jsk 1 N (by decide) (by omega);rw[show 1*N/18446744073709551616=0 by omega,show 1*N%18446744073709551616=N by omega] at ha;have hc:=ZG N (by omega)
 have n0:¬(N:Int)<0:=by omega
 have n1:¬(9223372036854775807:Int)<(N:Int):=by omega
 have Z:=Za hx;clear hx
 go_enter func59,ntmps59
 go_upto_region 7 with(go_at_call 106;refine Sm (ha _) ?_);have h:Hd (Blk 70 (w.alloc (.cells (rpC stD N 0).toArray 70)) w.heap.size (rpC s N 0)):=Za (Blk.new w _ _);replace Z:=Za (Z.o.lq (Zb w (.cells (rpC stD N 0).toArray 70)));have H:=Za (Zb w (.cells (rpC stD N 0).toArray 70));clear ha hc;generalize w.alloc (.cells (rpC stD N 0).toArray 70)=v1 at *;obtain⟨G,hG⟩:∃G,w.heap.size=G:=⟨_,rfl⟩;have J:=Za hG;rw[hG] at h|-;clear hG
 go_upto_region 8 with(refine Jsq _ _ rfl ?_;refine wpList_plain rfl fun K hK=>?_;refine GZ (.tmp 31) (.tmp 32) 44 rfl 70 underlying44 8 Wf G 0 N N ⟨X,0,none⟩ 1 1 1 rfl rfl (by show min 1 N=1;omega) (A6 s) rfl (fun j v M=>by rw[Addr.add_lit];exact Z.o.range j v M) (h.o.there (by unfold rpC;rw[W9,Uo];simp;omega)) (Mz s) ?_;refine hK _ _ ?_;clear hK K)
 have Y:Hd (Blk 70 (v1.setCells G 0 (A6 s)) G (rpC s N 1)):=Za (by
  have k:=Blk.setCells (A6 s) 0 v1 _ h.o;have e:=Jch s (N:=N) (k:=0) (m:=1) (by omega);rw[show(List.replicate 1 s).flatMap A6=A6 s by simp] at e;rw[show(0:Nat)=0*8 from rfl,e] at k
  exact k)
 have Q:=Za (Zo (A6 s) 0 v1 H.o (Nat.le_of_eq J.o));clear h Z H;generalize v1.setCells G 0 (A6 s)=v2 at*
 go_loopw [8] (fun n wr=>∃k:Nat,1<=k/\k<=N/\n=Vi k/\Blk 70 wr G (rpC s N k)/\Bw w wr) (fun n _=>N-(intOf n).toNat)
 case atStart=>exact⟨1,by omega,h1,rfl,Y.o,Q.o⟩
 case round=>
  clear Y Q;obtain⟨k,hd,hk,rfl,D,C⟩:=hrel;have h:=Za D;have H:=Za C;clear D C
  by_cases hlt:k<N
  . have O:(0:Int)<=(k:Int):=by omega
    have U:(k:Int)<(N:Int):=by omega
    have A:(k:Int)<=(N:Int):=by omega
    obtain⟨m,F⟩:∃m,min k (N-k)=m:=⟨_,rfl⟩
    have B:1<=m/\m<=k/\k+m<=N:=by omega
    have hw:IntKind.i64.wrap ((k:Int)+(m:Int))=((k+m:Nat):Int):=by rw[IntKind.wrap_i64]<;>omega
    go_upto_region 9 with fail;refine Ct [38,39,40,41,42,43,44] ?_;refine Cp 0 38 [] ?_;refine Cp 1 39 [] ?_;refine Cp 2 40 [] ?_;refine Cp 3 41 [1,2] ?_;refine Cp 4 42 [] ?_;refine Cp 5 43 [] ?_;refine Cp 6 44 [4,5] ?_;refine Cn 3 10 [7,8,9] (fun y R P I=>?_);clear I;simp only[if_neg (show ¬N=k by omega)];have T:=Za (h.o.lq P);have E:=Za (Zc H.o P);clear P h H;refine Ra 7 (fun K hK=>?_);rw[if_pos (by rfl)];refine GZ (.tmp 41) (.tmp 44) 44 rfl 70 underlying44 8 Wf G (k*8) (N-k) (N-k) ⟨G,0,none⟩ k N m rfl rfl F ((List.replicate m s).flatMap A6) (by rw[W9,List.length_replicate]) (fun j v M=>by rw[Addr.add_lit];exact T.o.range j v (Jm9 s (by omega) j v M)) (T.o.there (by unfold rpC;rw[W9,W9];simp;omega)) (Jqi _) ?_
    have Y:Hd (Blk 70 (R.setCells G (k*8) ((List.replicate m s).flatMap A6)) G (rpC s N (k+m))):=Za (by
     have q:=Blk.setCells ((List.replicate m s).flatMap A6) (k*8) R _ T.o;rw[Jch s (by omega)] at q
     exact q)
    have Q:=Za (Zo ((List.replicate m s).flatMap A6) (k*8) R E.o (Nat.le_of_eq J.o));refine hK.out _ _ trivial (fun _=>?_);clear hK K T E;generalize R.setCells G (k*8) _=v5 at *;(try simp only[Act.put]);refine Tq 8 trivial ?_;simp only[Act.put,Ly];refine Tq 9 trivial ?_;simp only[Act.put,Ly];refine Dn ?_;go_simp;go_roundw
    case rel=>(repeat apply Exists.intro);exact⟨⟨k+m,by omega,by omega,by go_num,Y.o,Q.o⟩,rfl⟩
    case measure=>simp[intOf];omega
  . obtain rfl:k=N:=by omega
    have L:Hd (Blk 70 wr G ((List.replicate k s).flatMap A6)):=Za (by have q:=h.o;unfold rpC at q;simpa using q);clear h;go_wp2_with fail;go_ret;exact⟨G,rfl,L.o,Nat.le_of_eq J.o,H.o⟩
def AQ(n0 n1 h y n4 j n6 m:Int):Stp:=⟨fun i=>if i=0 then n0 else n1,fun i=>if i=0 then h else y,fun i=>if i=0 then n4 else j,n6,m==1⟩
theorem Jex(K D:Nat)(p:V8)(c:Nat)(ws:List V7)(h5:ws.length<=1000)(j:∀s∈ws,s.size<=100000)(hn:ws.all nC=false)(w:V6)(y:GW K a w)(hs:TxL w p ws):
 Va 32 #[Ve D 0,.slice p ws.length c] w (Rt w (.tuple #[.string ⟨#[]⟩,eV a])):=by
 have ha:Va 53 #[.slice p ws.length c] w (Rt w (.tuple #[.slice none 0 0,eV a])):=(Nv p c ws j a w y.eb hs).mono fun e w' h=>by
  obtain⟨h1,h2⟩:=h;rw[if_neg (by rw[hn];simp)] at h1;exact⟨h1,h2⟩
 have H:=Za y;clear y hs hn j
 go_enter func32,ntmps32
 go_upto_region 3 with(go_at_call 53;refine ha.mono ?_;rintro e v1 ⟨rfl,m⟩);have hc:=(H.o.lq m).eb;go_quiet (fail);go_wp2;go_ret2;exact⟨rfl,below_drewN m _⟩
def N9(u:V6)(q:Nat)(l:V9):Prop:=∀j x,l[j]?=some x->V2 u q j x
theorem En(K:Nat)(p:V8)(c N:Nat)(l:V9)(ws:List V7)(h5:ws.length=N)(Z:∀s∈ws,s.size<=100000)(hn:ws.all nC=true)(H:ws.map nV=l)(w:V6)(Y:GW K a w)(hs:TxL w p ws)(hN:0<N:=by decide)(hc:N<=1000:=by decide):
 Va 53 #[.slice p N c] w fun e w'=>∃q y,e=.returned (.tuple #[Vf q 0 N y,.nilIface])/\N9 w' q l/\Bw w w':=
 (h5▸Nv p c ws Z a w Y.eb hs:Va 53 #[.slice p N c] w (NbP w ws a)).mono fun e w' h=>by
  obtain⟨h1,h2⟩:=h
  have ha:l.length=N:=by rw[<-H,List.length_map,h5]
  rw[if_pos hn,H] at h1;obtain⟨s,rfl,hi⟩:=h1;obtain⟨q,y,rfl⟩:=hi.slice;obtain⟨X,rfl,_,Q⟩:=Row.at (f:=iL) (m:=1) (fun _=>rfl) hi (fun e=>by rw[e] at ha;simp at ha;omega);rw[ha];exact⟨X,y,rfl,fun j x hx=>by have:=Q j x hx 0 _ rfl;simpa using this,h2⟩
theorem Jey(K D:Nat)(p:V8)(c:Nat)(n0 n1 Q G n4 R n6 h j:Int)(ws:List V7)(h5:ws.length=9)(Y:∀s∈ws,s.size<=100000)(hn:ws.all nC=true)(X:ws.map nV=[n0,n1,Q,G,n4,R,n6,h,j])(ho:¬((0<=h/\h<=1)/\1<=j/\j<=300))(w:V6)(H:GW K a w)(hs:TxL w p ws):
 Va 32 #[Ve D 0,.slice p 9 c] w (Rt w (.tuple #[.string ⟨#[]⟩,eV a])):=by
 have ha:=En K p c 9 _ ws h5 Y hn X w H hs;have hd:=Yy h 0 1;have T:=Yy j 1 300
 have y:A1 h 0 1=false\/(A1 h 0 1=true/\A1 j 1 300=false):=by
  unfold A1
  by_cases q:0<=h/\h<=1
  . refine .inr ⟨by simp[q],?_⟩
    by_cases q2:1<=j<;>simp[q2]<;>omega
  . refine .inl ?_
    by_cases q2:0<=h<;>simp[q2]<;>omega
 have J:=Za H;clear H hs hn Y h5 X ho;generalize A1 h 0 1=b7 at *;generalize A1 j 1 300=b8 at*
 rcases y with rfl|⟨rfl,rfl⟩
 all_goals
  go_enter func32,ntmps32
  go_upto_region 3 with(first
   |(go_at_call 53;refine ha.mono ?_;rintro e v1 ⟨q,N,rfl,Z,y⟩;have m:=Za y;have M:=Za Z;have P:=Z 7 h rfl;clear y Z)
   |(go_at_call_of 55 (0:Int);refine Sb (hd _) fun v2 y=>?_;replace m:=Za (Zc m.o y);have C:=cell_later y (M.o 8 j rfl);clear y)
   |(go_at_call_of 55 (300:Int);refine Sb (T _) fun E y=>?_;replace m:=Za (Zc m.o y);clear y))
  have hc:=(J.o.lq m.o).eb;go_quiet (fail);go_wp2;go_ret2;exact⟨rfl,below_drewN m.o _⟩
theorem Cgr{md:Region.Mode}{w0:V6}{D:List Nat}{F:(Nat->Value)->Act}{S':V6->Prop}{listed0:Array Bool}{fuel:Nat}{r:List Ent}{f:Nat}{x:Value}{z z':List Value}{t':TypeId}(i d H Z:Nat)(j:List Nat)(h:∀X w,Bw w0 w->w.heap[X]?=some (.cells z.toArray t (0,0))->Calls P f #[Vf X 0 n n,x] w fun e w'=>∃G,e=.returned (Vf G 0 N N)/\w'.heap[G]?=some (.cells z'.toArray t' (0,0))/\w.heap.size<=G/\Bw w w')(k:Cb P md ops Q w0 D F S' listed0 fuel (⟨i,d,false,fun y w=>∃G,y d=Vf G 0 N N/\w.heap[G]?=some (.cells z'.toArray t' (0,0))/\w0.heap.size<=G⟩::r))(Y:∀y w,AH j y w r->(∃X,y H=Vf X 0 n n/\w.heap[X]?=some (.cells z.toArray t (0,0))/\w0.heap.size<=X)/\y Z=x)(ho:ops[i]?=some o:=by rfl)(hc:Yn md ops D listed0 j i d false r=true:=by kernel_rfl)(hw:∀y w,AH j y w r->Region.wanted o (yielded ops (F y).tmps)=true:=by intro y w hF;rfl)(hy:∀y w X,y H=Vf X 0 n n->y Z=x->(execOp (F y).eval o).run P w=.ok (.enter f #[Vf X 0 n n,x]) w:=by intro y w X hF hx;go_simp;(try first|with_reducible rfl|rfl)):
 Cb P md ops Q w0 D F S' listed0 fuel r:=
 Co i d j _ (fun y w hS hF K hK=>by
  obtain⟨⟨X,e,R,_⟩,T⟩:=Y y w hF;rw[if_pos (hw y w hF)]
  unfold Oper.wp
  rw[hy y w X e T,Oper.upon_enter];obtain⟨_,_,_,J,ho',hd,_⟩:=Wb hc;rw[ho] at ho'
  cases ho'
  refine(h X w hS R).mono ?_;rintro e w' ⟨G,rfl,hG,hl,m⟩
  show K ((F y).put o.dst _) w'
  rw[hd]
  exact hK _ w' m ⟨G,if_pos rfl,hG,Nat.le_trans hS.size hl⟩) k
  (fun _ _ _ _ ⟨X,h1,h2,h3⟩ ha m=>⟨X,(ha _ (List.mem_cons_self ..)).trans h1,(m.block X (Array.getElem?_eq_some_iff.1 h2).1).trans h2,h3⟩) ho hc
def dsP(K D:Nat)(g:Nat->Nat)(d:Dk)(h j y:Value)(s:Stp)(N:Nat)(w:V6)(e:Ending)(w':V6):Prop:=Dt K w w'/\(if AW (UC d.a g) s=0 then e=.returned (.tuple #[.string okS,.nilIface])/\∃ss',PD true K D g ⟨d.a,d.ft,d.st++List.replicate N s,d.rp⟩ h ss' y w' else e=.returned (.tuple #[.string ⟨#[]⟩,A8 (AW (UC d.a g) s)])/\PD true K D g d h j y w')
theorem Jez(K D:Nat)(g:Nat->Nat)(d:Dk)(m:Nat)(hd:DI d m)(hm:m<=10000)(sf ss sr:Value)(p:V8)(c:Nat)(n0 n1 Z Y n4 Q n6 H U:Int)(ws:List V7)(h5:ws.length=9)(hz:∀s∈ws,s.size<=100000)(hn:ws.all nC=true)(he:ws.map nV=[n0,n1,Z,Y,n4,Q,n6,H,U])(h7:0<=H/\H<=1)(h8:1<=U/\U<=300)(w:V6)(hg:GW K a w)(hs:TxL w p ws)(h:PD true K D g d sf ss sr w):
 Va 32 #[Ve D 0,.slice p 9 c] w (dsP K D g d sf ss sr (AQ n0 n1 Z Y n4 Q n6 H) U.toNat w):=by
 have hh:=En K p c 9 _ ws h5 hz hn he w hg hs;have hi:=KV h7.1 h7.2;have hj:=KV h8.1 h8.2;have Hn:=Za (NU (UC d.a g) (AQ n0 n1 Z Y n4 Q n6 H) (fun i _=>by have:=hd.a i 3;show -100000000000<=d.a i 3/\d.a i 3<=_;omega));have HP:=Za h;have HL:=Za hd.st;obtain⟨N,rfl⟩:∃N:Nat,U=N:=⟨U.toNat,by omega⟩;rw[Int.toNat_natCast];have Hj:Hd (1<=N/\N<=300):=Za (by omega);clear hg hs hn hz h h5 he hd h7 h8
 go_enter func32,ntmps32
 go_upto_region 4 with(first
  |(go_at_call 53;refine hh.mono ?_;rintro e v1 ⟨q,cc,rfl,hq,M⟩;have I:=Za M;have R:=Za hq;have x7:=hq 7 H rfl;clear M hq)
  |(go_at_call_of 55 (0:Int);refine Sb (hi _) fun v2 M=>?_;replace I:=Za (Zc I.o M);replace R:=Za (fun j x hx=>cell_later M (R.o j x hx));have x8:=R.o 8 _ rfl;clear M)
  |(go_at_call_of 55 (300:Int);refine Sb (hj _) fun v3 M=>?_;replace I:=Za (Zc I.o M);replace R:=Za (fun j x hx=>cell_later M (R.o j x hx));clear M))
 rename World=>v3;replace R:Hd (N9 v3 q _):=Za R.o;have L:=I;have P:=Za (HP.o.lq I.o);clear I HP hh hi hj;have x0:=R.o 0 n0 rfl;have x1:=R.o 1 n1 rfl;have x2:=R.o 2 Z rfl;have x3:=R.o 3 Y rfl;have x4:=R.o 4 n4 rfl;have x5:=R.o 5 Q rfl;have x6:=R.o 6 n6 rfl;have x7:=R.o 7 H rfl;refine Cs [32,33,34,35,36,37,38,39,40,41,42,43,44,45,46,47,48,49,50,51,52,53,54,55,56,57,58,59,60,8] ?_;refine Cp 0 32 [] ?_;refine Cp 1 33 [0] ?_;refine Cq (V5 x0) 2 34 [1] ?_;refine Cp 3 35 [] ?_;refine Cp 4 36 [3] ?_;refine Cq (V5 x1) 5 37 [4] ?_;refine Cp 6 38 [2,5] ?_;refine Cp 7 39 [] ?_;refine Cp 8 40 [7] ?_;refine Cq (V5 x2) 9 41 [8] ?_;refine Cp 10 42 [] ?_;refine Cp 11 43 [10] ?_;refine Cq (V5 x3) 12 44 [11] ?_;refine Cp 13 45 [9,12] ?_;refine Cp 14 46 [] ?_;refine Cp 15 47 [14] ?_;refine Cq (V5 x4) 16 48 [15] ?_;refine Cp 17 49 [] ?_;refine Cp 18 50 [17] ?_;refine Cq (V5 x5) 19 51 [18] ?_;refine Cp 20 52 [16,19] ?_;refine Cp 21 53 [] ?_;refine Cp 22 54 [21] ?_;refine Cq (V5 x6) 23 55 [22] ?_;refine Cp 24 56 [] ?_;refine Cp 25 57 [24] ?_;refine Cq (V5 x7) 26 58 [25] ?_;refine Cp 27 59 [26] ?_;refine Cp 28 60 [6,13,20,23,27] ?_;refine Ca (z:=Qbv) (t:=70) 29 8 ?_;refine Cn 1 31 [30] (fun y O T C=>?_);obtain⟨A,e,hA,ha⟩:=C.1;(try simp only[e]);have Hl:Hd (Blk 70 O A Qbv):=Za hA;have Hu:=Za ha;have B:=Za T;clear C e hA ha T x0 x1 x2 x3 x4 x5 x6 x7;(try clear x8);refine Ra 30 (fun K hK=>?_);rw[if_pos (by rfl)];refine Z2 70 (.tmp 8) (.tmp 60) rfl A 0 (A6 (AQ n0 n1 Z Y n4 Q n6 H)).toArray rfl rfl (Hl.o.there (o:=0) (n:=8) (by decide)) Wf (Zm _ rfl) rfl ?_;have W:=Za (Zo (A6 (AQ n0 n1 Z Y n4 Q n6 H)) 0 O B.o Hu.o);have Hk:Hd (Blk 70 (O.setCells A 0 (A6 (AQ n0 n1 Z Y n4 Q n6 H))) A (A6 (AQ n0 n1 Z Y n4 Q n6 H))):=Za (Blk.setCells (A6 (AQ n0 n1 Z Y n4 Q n6 H)) 0 O _ Hl.o);refine hK.out _ _ W.o (fun _=>?_);clear hK K Hl B;refine Dn ?_;go_simp
 generalize O.setCells A 0 _=v4 at *;refine Ek ?_;replace L:=Za (Zc L.o W.o);replace P:=Za (P.o.lq W.o);replace R:Hd (N9 v4 q _):=Za (fun j x hx=>cell_later W.o (R.o j x hx));have Ho:=Za (Xz P.o.bk 2 32 (UY _ _ _ _ (X4 _)));have Hi:=Za Hk.o.range;clear W
 go_upto_region 5 with fail;refine Cs [61,62,63,64,65,66,9] ?_;refine Cp 0 61 [] ?_;refine Cp 1 62 [0] ?_;refine Cp 2 63 [1] ?_;refine Cl (x:=.tmp 63) 3 64 [2] (fun y w hF u hc=>⟨Zf Ho.o hc,hF.1⟩) underlying41 Zr ?_;refine Cl (x:=.tmp 8) 4 65 [] (fun y w _ u hc=>⟨Zf Hi.o hc,rfl⟩) underlying70 Wf ?_;refine Cc 5 66 [3,4] (fun y w h _=>Hn.o _) ?_;refine Cp 6 9 [5] ?_;refine Ce (fun y u2 T C=>?_);have B:=Za T;clear T C;go_simp;have T:=B.o;clear B;generalize u2=v5 at T|-;refine Ek ?_;replace L:=Za (Zc L.o T);replace P:=Za (P.o.lq T);replace Hk:=Za (Hk.o.lq T);replace R:Hd (N9 v5 q _):=Za (fun j x hx=>cell_later T (R.o j x hx));clear T Ho Hi Hn
 by_cases hE:AW (UC d.a g) (AQ n0 n1 Z Y n4 Q n6 H)=0
 case neg=>
  rw[Zv hE];have HA:Hd (dsP K D g d sf ss sr (AQ n0 n1 Z Y n4 Q n6 H) N w (.returned (.tuple #[.string ⟨#[]⟩,A8 (AW (UC d.a g) (AQ n0 n1 Z Y n4 Q n6 H))])) v5):=Za ⟨Dt.of L.o,by rw[if_neg hE];exact⟨rfl,P.o⟩⟩;rw[Zv hE] at HA;generalize AW (UC d.a g) (AQ n0 n1 Z Y n4 Q n6 H)=E at *;go_wp2_with fail;go_ret2;exact HA.o
 case pos=>
  rw[hE,Z0]
  go_upto_region 8 with fail;have c1:=(P.o.bk.cell (j:=1) rfl).1;have x8:=R.o 8 _ rfl;have Hi:=Za Hk.o.range;refine Ct [70,71,72,73,74,75,76,77,78,79,80,81] ?_;refine Cp 0 70 [] ?_;refine Cp 1 71 [] ?_;refine Cp 2 72 [1] ?_;refine Cp 3 73 [2] ?_;refine Cp 4 74 [3] ?_;refine Cy (V5 c1) 5 75 [4] ?_;refine Cr (x:=.tmp 8) 6 76 [] (fun y w h _=>⟨Zf Hi.o h,rfl⟩) underlying70 Wf ?_;refine Cbs (z:=A6 (AQ n0 n1 Z Y n4 Q n6 H)) (t:=70) (n:=1) 7 77 [6] ?_;refine Cp 8 78 [] ?_;refine Cp 9 79 [8] ?_;refine Cy (V5 x8) 10 80 [9] ?_;refine Cgr (n:=1) (N:=N) (z:=A6 (AQ n0 n1 Z Y n4 Q n6 H)) (t:=70) (x:=Vi N) 11 81 77 80 [7,10] (fun X w _ hx=>ZH X (AQ n0 n1 Z Y n4 Q n6 H) N Hj.o.1 Hj.o.2 w hx) ?_ (fun y w hF=>⟨hF.2.1,hF.1⟩);refine Cn 5 17 [12,13,14,15,16] (fun y O T C=>?_);obtain⟨G,e,hX,ha⟩:=C.1;obtain⟨X,e2,_,_⟩:=C.2.2.2.2.1;(try simp only[e,e2]);have Hp:Hd (Blk 70 O G ((List.replicate N (AQ n0 n1 Z Y n4 Q n6 H)).flatMap A6)):=Za hX;have J:=Za (P.o.lq T);have Hq:=Za (Zc L.o T);clear C e e2 hX ha T c1 x8 Hi P L R;refine Ra 12 (fun K9 hK=>?_);rw[if_pos (by rfl)];refine ZD (rs':=List.replicate N (AQ n0 n1 Z Y n4 Q n6 H)) (.tmp 75) (.tmp 81) underlying44 FU rfl rfl J.o.st J.o.lt Hp.o.range List.length_replicate Hj.o.1 Uo Mz (by have:=HL.o;have:=Hj.o.2;omega) ?_;intro s' u2 hR hG;obtain⟨ps',cs',rfl⟩:=hR.slice;rw[show(d.st++List.replicate N (AQ n0 n1 Z Y n4 Q n6 H)).length=d.st.length+N by simp] at hR|-;have HR:=Za hR;have Hr:=Za ((Dt.of Hq.o).row J.o.st hG);have F:=Za (J.o.bk.kept J.o.st hG (by decide));have Hs:=Za (J.o.ft.kept J.o.st hG);have Ht:=Za (J.o.rp.kept J.o.st hG);have Hm:=Za (J.o.st.below J.o.lt hG);clear hR hG Hp;refine hK.out _ _ trivial (fun _=>?_);clear hK K9;(try simp only[Act.put]);refine Tq 13 trivial ?_;simp only[Act.put,Ly];refine Tq 14 trivial ?_;simp only[Act.put,Ly];refine Tq 15 trivial ?_
  simp only[Act.put,Ly];refine Ra 16 (fun K9 hK=>?_);obtain⟨e,e1⟩:=F.o.cell (j:=1) rfl;go_simp;refine hK.out _ _ trivial (fun _=>?_);clear hK K9;refine Dn ?_
  have HA:Hd (dsP K D g d sf ss sr (AQ n0 n1 Z Y n4 Q n6 H) N w (.returned (.tuple #[.string okS,.nilIface])) (u2.setCell (Ad D 1) (.slice ps' (d.st.length+N) cs'))):=Za (by
   have hk:=J.o.kd;have dd:=Hr.o.set (j:=1) (x:=.slice ps' (d.st.length+N) cs') F.o hk;refine⟨dd,?_⟩;rw[if_pos hE]
   refine⟨rfl,_,J.o.upd (d':=⟨d.a,d.ft,d.st++List.replicate N (AQ n0 n1 Z Y n4 Q n6 H),d.rp⟩) rfl (F.o.set 1 _) (Wi Hm.o ((Dt.refl K u2).set (j:=1) F.o hk |>.below (Nat.le_trans J.o.lt Hm.o.size))) (Hs.o.set F.o (by decide)) (HR.o.set F.o (by decide)) (Ht.o.set F.o (by decide))⟩)
  clear F Hs Ht Hm HR Hr e e1 J Hq;generalize u2.setCell _ _=v6 at *;go_simp;refine Ek ?_;go_wp2_with fail;go_ret2;exact HA.o
def wMn(ax:Nat)(l:List Rp)(x:Int):Int:=l.foldl (fun a r=>min a (r.x ax)) x
def wMx(ax:Nat)(l:List Rp)(x:Int):Int:=l.foldl (fun a r=>max a (r.x ax)) x
theorem LA(ax:Nat)(x:Int)(h:l[k]?=some r):wMn ax (l.take (k+1)) x=min (wMn ax (l.take k) x) (r.x ax):=by
 unfold wMn
 rw[List.take_add_one,h,Option.toList_some,List.foldl_append]
 rfl
theorem LB(ax:Nat)(x:Int)(h:l[k]?=some r):wMx ax (l.take (k+1)) x=max (wMx ax (l.take k) x) (r.x ax):=by
 unfold wMx
 rw[List.take_add_one,h,Option.toList_some,List.foldl_append]
 rfl
theorem Jjk(ax:Nat)(hx:ax<2)(K D:Nat)(g:Nat->Nat)(d:Dk)(m:Nat)(hd:DI d m)(sf ss:Value)(pr:V8)(cr:Nat)(r0:Rp)(h0:d.rp[0]?=some r0)(w:V6)(h:PD true K D g d sf ss (.slice pr d.rp.length cr) w):
 Va 63 #[Ve D 0,Vi ax] w (Rt w (.agg #[Vi (wMn ax d.rp (r0.x ax)),Vi (wMx ax d.rp (r0.x ax))])):=by
 have hl:=hd.rn;have P:0<d.rp.length:=(List.getElem?_eq_some_iff.1 h0).1;obtain⟨C,rfl,_,hi⟩:=Row.at U3 h.rp (fun e=>by rw[e] at P;cases P);have A:Hd (∀j x,d.rp[j]?=some x->w.rangeAt C (j*15) (rpL x)):=Za hi;obtain⟨H,hc⟩:∃H:Nat->Int,∀k,H k=wMn ax (d.rp.take k) (r0.x ax):=⟨_,fun _=>rfl⟩;obtain⟨Z,J⟩:∃Z:Nat->Int,∀k,Z k=wMx ax (d.rp.take k) (r0.x ax):=⟨_,fun _=>rfl⟩;obtain⟨y,ha⟩:∃y:Rp->Int,∀r,y r=r.x ax:=⟨_,fun _=>rfl⟩;have B:Hd (∀k r,d.rp[k]?=some r->H (k+1)=mnA (H k) (y r)/\Z (k+1)=mxA (Z k) (y r)):=Za (fun k r h=>⟨by rw[hc,hc,ha,LA ax _ h];rfl,by rw[J,J,ha,LB ax _ h];rfl⟩);have E:wMn ax d.rp (r0.x ax)=H d.rp.length/\wMx ax d.rp (r0.x ax)=Z d.rp.length:=⟨by rw[hc,List.take_length],by rw[J,List.take_length]⟩;have W:Hd (H 0=y r0/\Z 0=y r0):=Za ⟨by rw[hc,ha];rfl,by rw[J,ha];rfl⟩;have HZ:Hd (∀(v:V6) (X:Nat) (r:Rp),Blk 75 v X (rpL r)->V2 v X ax (y r)):=Za (fun v X r h=>by rw[ha];exact(h.cell (Jjj r hx)).1);have Hc:Hd (V2 w C (0+ax) (y r0)):=Za (by have k:=hi 0 r0 h0 ax _ (Jjj r0 hx);rw[Nat.zero_mul] at k;rw[ha];exact k);have c2:=(h.bk.cell (j:=34) rfl).1
 have n1:(0:Int)<(d.rp.length:Int):=by omega
 rw[E.1,E.2];clear hi h h0 P hc J ha E
 rcases(show ax=0\/ax=1 by omega) with rfl|rfl
 all_goals
  first|rw[show((0:Nat):Int)=0 from rfl]|rw[show((1:Nat):Int)=1 from rfl]
  have F:=Hc.o;clear hx Hc
  go_enter func63,ntmps63
  go_upto_region 1 with fail;have G:Hd (Blk 140 (w.alloc (.cells #[Vi 0,Vi 0] 140)) w.heap.size [Vi 0,Vi 0]):=Za (Blk.new w _ _);have Q:=Zb w (.cells #[Vi 0,Vi 0] 140);replace c2:=cell_later Q c2;replace F:=cell_later Q F;have T:=Za Q;clear Q;generalize w.alloc (.cells #[Vi 0,Vi 0] 140)=v1 at *;have Hf:Hd (w.heap.size<=w.heap.size):=Za (Nat.le_refl _);generalize hj:w.heap.size=R at G Hf|-;have Hg:=Za hj;clear hj
  go_upto_region 3 with(refine CS 140 _ _ rfl ?_;refine U5 140 [Vi (y r0),Vi (y r0)] (.tmp 6) (.tmp 20) rfl D1 rfl ?_);have Y:Hd (Blk 140 (v1.alloc (.cells #[Vi (y r0),Vi (y r0)] 140)) v1.heap.size [Vi (y r0),Vi (y r0)]):=Za (Blk.new v1 _ _);have Q:=Zb v1 (.cells #[Vi (y r0),Vi (y r0)] 140);have Hh:Hd (R<v1.heap.size):=Za G.o.lt;replace G:=Za (G.o.lq Q);replace c2:=cell_later Q c2;replace T:=Za (Zc T.o Q);clear Q F Hf;generalize v1.alloc (.cells #[Vi (y r0),Vi (y r0)] 140)=v2 at *;generalize v1.heap.size=S at *;(try simp only[Act.put])
  go_upto_region 4 with fail;clear c2;have m2:=fun I t p q w=>DT I t p q w;have m3:=fun I t p q w=>DU I t p q w
  go_loopw [26] (fun n wr=>∃k:Nat,k<=d.rp.length/\n=Vi k/\Blk 140 wr S [Vi (H k),Vi (Z k)]/\Blk 140 wr R [Vi 0,Vi 0]/\Bw w wr) (fun n _=>d.rp.length-(intOf n).toNat)
  case atStart=>exact⟨0,by omega,rfl,by rw[W.o.1,W.o.2];exact Y.o,G.o,T.o⟩
  case round=>
   clear Y G T;obtain⟨k,hk,rfl,hs,hr,hb⟩:=hrel;have Y:=Za hs;have G:=Za hr;have T:=Za hb;clear hs hr hb
   by_cases hlt:k<d.rp.length
   . obtain⟨r,M⟩:∃r,d.rp[k]?=some r:=⟨d.rp[k],List.getElem?_eq_getElem hlt⟩;have Hi:=Za (B.o k r M).1;have Hj:=Za (B.o k r M).2;have HA:=Za (Zf (A.o k r M) T.o)
     have k0:(0:Int)<=(k:Int):=by omega
     have k1:(k:Int)<(d.rp.length:Int):=by omega
     clear M
     go_upto_region 6 with(first
      |(refine EM 75 _ rfl ?_;refine wpList_load_mid rfl 75 (.tmp 28) rfl C (k*15) rfl (rpL r) _ HA.o underlying75 rfl Xn ?_)
      |(refine CS 75 _ _ rfl ?_;refine U5 75 (rpL r) (.tmp 8) (.tmp 29) rfl Xn rfl ?_))
     have L:Hd (Blk 75 (wr.alloc (.cells (rpL r).toArray 75)) wr.heap.size (rpL r)):=Za (Blk.new wr _ _);have Q:=Zb wr (.cells (rpL r).toArray 75);have Hk:Hd (S<wr.heap.size):=Za Y.o.lt;replace Y:=Za (Y.o.lq Q);replace G:=Za (G.o.lq Q);replace T:=Za (Zc T.o Q);clear Q HA;generalize wr.alloc (.cells (rpL r).toArray 75)=v5 at *;generalize wr.heap.size=X at *;(try simp only[Act.put]);have y0:=(Y.o.cell (j:=0) rfl).1;have y1:=(Y.o.cell (j:=1) rfl).1;have z0:=HZ.o _ X r L.o;clear A;have e0:=(Y.o.cell (j:=0) rfl).2;have e1:=(Y.o.cell (j:=1) rfl).2
     have hm:w.heap.size<=S:=by have:=Hg.o;have:=Hh.o;omega
     have hn:R≠S:=by have:=Hh.o;omega
     have ho:X≠S:=by have:=Hk.o;omega
     have z1:=HZ.o _ X r (L.o.far ho 0 (Vi (mnA (H k) (y r))));have O:=(Y.o.set 0 (Vi (mnA (H k) (y r)))).cell (j:=1) rfl;obtain⟨O,y3⟩:=O;have U:Hd (w.heap.size<=S/\R≠S):=Za ⟨hm,hn⟩
     have hw:IntKind.i64.wrap ((k:Int)+1)=((k+1:Nat):Int):=by rw[IntKind.wrap_i64]<;>omega
     clear hm hn ho
     go_region
     have Hl:Hd (Blk 140 ((v5.setCell (Ad S 0) (Vi (mnA (H k) (y r)))).setCell (Ad S 1) (Vi (mxA (Z k) (y r)))).drew S [Vi (H (k+1)),Vi (Z (k+1))]):=Za (by rw[Hi.o,Hj.o];exact(Y.o.set 0 (Vi (mnA (H k) (y r)))).set 1 (Vi (mxA (Z k) (y r))));have Hm:Hd (Blk 140 ((v5.setCell (Ad S 0) (Vi (mnA (H k) (y r)))).setCell (Ad S 1) (Vi (mxA (Z k) (y r)))).drew R [Vi 0,Vi 0]):=Za ((G.o.far U.o.2 0 (Vi (mnA (H k) (y r)))).far U.o.2 1 (Vi (mxA (Z k) (y r))));have Hn:Hd (Bw w ((v5.setCell (Ad S 0) (Vi (mnA (H k) (y r)))).setCell (Ad S 1) (Vi (mxA (Z k) (y r)))).drew):=Za (Below.drew (Zo [(Vi (mnA (H k) (y r))),(Vi (mxA (Z k) (y r)))] 0 v5 T.o U.o.1));clear z1 O y3 y0 y1 z0 e0 e1 Y G T L Hi Hj;generalize World.drew _=v7 at *;(try go_simp);(try go_wp2_with fail);go_roundw
     case rel=>exact⟨k+1,by omega,by go_num,Hl.o,Hm.o,Hn.o⟩
     case measure=>simp[intOf];omega
   . obtain rfl:k=d.rp.length:=by omega
     have Ho:Hd (Blk 140 wr S [Vi (H d.rp.length),Vi (Z d.rp.length)]):=Za (Y.o);clear Y
     have n3:¬(d.rp.length:Int)<(d.rp.length:Int):=by omega
     have hq:w.heap.size<=R:=Nat.le_of_eq Hg.o;have hp:=Zo [Vi (H d.rp.length),Vi (Z d.rp.length)] 0 wr T.o hq;have N:=Blk.setCells [Vi (H d.rp.length),Vi (Z d.rp.length)] 0 wr _ G.o;have q0:=(N.cell (j:=0) rfl).1;have q1:=(N.cell (j:=1) rfl).1;have Hp:=Za hp;have Hq:Hd (Blk 140 (wr.setCells R 0 [Vi (H d.rp.length),Vi (Z d.rp.length)]) R [Vi (H d.rp.length),Vi (Z d.rp.length)]):=Za N;clear hp N
     go_wp2_with (first
      |(refine EM 140 _ rfl ?_;refine wpList_load_mid rfl 140 (.tmp 6) rfl S 0 rfl [Vi (H d.rp.length),Vi (Z d.rp.length)] _ Ho.o.range underlying140 rfl D1 ?_)
      |(refine CS 140 _ _ rfl ?_;refine wpList_plain rfl fun K9 hK=>?_;refine Z2 140 (.tmp 4) (.tmp 47) rfl R 0 #[Vi (H d.rp.length),Vi (Z d.rp.length)] rfl rfl (G.o.there (o:=0) (n:=2) (by decide)) D1 (Zm _ rfl) rfl ?_;refine hK _ _ ?_;clear hK K9;generalize wr.setCells R 0 _=v9 at *))
     exact bodyPost_ret (v:=.agg #[Vi (H d.rp.length),Vi (Z d.rp.length)]) (by first|simp[results,results63,go_sem,q0,q1]|exact results_cell_row rfl _ _ R 140 _ (0,0) _ rfl Hq.o underlying140 rfl D1) rfl ⟨rfl,Hp.o⟩
theorem ZI(ax:Nat):∀(l:List Rp) (x:Int),(∀r∈l,-2000000<=r.x ax/\r.x ax<=2000000)->-2000000<=x/\x<=2000000->-2000000<=wMn ax l x/\wMn ax l x<=2000000
 |[],_,_,h=>h
 |r::l,x,h,hx=>ZI ax l (min x (r.x ax)) (fun q y=>h q (.tail _ y)) (by have:=h r (.head _);omega)
theorem ZJ(ax:Nat):∀(l:List Rp) (x:Int),(∀r∈l,-2000000<=r.x ax/\r.x ax<=2000000)->-2000000<=x/\x<=2000000->-2000000<=wMx ax l x/\wMx ax l x<=2000000
 |[],_,_,h=>h
 |r::l,x,h,hx=>ZJ ax l (max x (r.x ax)) (fun q y=>h q (.tail _ y)) (by have:=h r (.head _);omega)
def edL(l:List Rp)(r:Rp):List Int:=[wMn 0 l (r.x 0),wMx 0 l (r.x 0),wMn 1 l (r.x 1),wMx 1 l (r.x 1)]
theorem Jjl(h:∀r∈l,RpI r)(y:r∈l):∀n∈edL l r,okI n:=by
 have h0:∀r∈l,-2000000<=r.x 0/\r.x 0<=2000000:=fun q j=>h q j _ (by simp[rpV]);have h1:∀r∈l,-2000000<=r.x 1/\r.x 1<=2000000:=fun q j=>h q j _ (by simp[rpV]);have a:=ZI 0 l _ h0 (h0 r y);have b:=ZJ 0 l _ h0 (h0 r y);have c:=ZI 1 l _ h1 (h1 r y);have d:=ZJ 1 l _ h1 (h1 r y);intro n hn;simp only[edL,List.mem_cons,List.not_mem_nil,or_false] at hn
 unfold okI
 rcases hn with rfl|rfl|rfl|rfl<;>omega
theorem Jjm(K D:Nat)(g:Nat->Nat)(d:Dk)(y m:Value)(e:V8)(cr:Nat)(h0:d.rp=[])(ws:Value)(w:V6)(h:PD true K D g d y m (.slice e d.rp.length cr) w):
 Va 35 #[Ve D 0,ws] w (Rt w (.tuple #[.string ⟨#[]⟩,A8 5])):=by
 have c2:=(h.bk.cell (j:=34) rfl).1;rw[h0] at c2;clear h h0
 go_enter func35,ntmps35
 go_wp2_with fail;go_ret2;exact⟨rfl,Below.refl _ _⟩
theorem Jjn(K D:Nat)(g:Nat->Nat)(d:Dk)(m:Nat)(hd:DI d m)(R T:Value)(J:V8)(cr:Nat)(r0:Rp)(h0:d.rp[0]?=some r0)(ws:Value)(w:V6)(M:GW K a w)(h:PD true K D g d R T (.slice J d.rp.length cr) w):
 Va 35 #[Ve D 0,ws] w (Rt w (.tuple #[.string (BJ (edL d.rp r0)),.nilIface])):=by
 have hc:0<d.rp.length:=(List.getElem?_eq_some_iff.1 h0).1;have c2:=(h.bk.cell (j:=34) rfl).1
 have n1:¬(d.rp.length:Int)=0:=by omega
 have B:((d.rp.length:Int)==0)=false:=by simp;intro q;rw[q] at hc;cases hc
 have E:=Za (Jjl hd.rp (List.mem_of_getElem? h0));have HW:=Za (fun(ax:Nat) (hx:ax<2) (u:V6) (H:Bw w u)=>Jjk ax hx K D g d m hd R T J cr r0 h0 u (h.lq H));have F:=Za M;clear M h h0 hc hd
 go_enter func35,ntmps35
 go_upto_region 5 with fail;clear c2
 go_loopw [6,16] (fun r ix wr=>∃k:Nat,k<=2/\ix=Vi k/\CV w.heap.size wr r ((edL d.rp r0).take (2*k))/\Bw w wr) (fun _ ix _=>2-(intOf ix).toNat)
 case atStart=>exact⟨0,by omega,rfl,Row.nil _ _ _ _ _,Below.refl _ _⟩
 case round=>
  obtain⟨k,hk,rfl,y,ha⟩:=hrel
  by_cases hlt:k<2
  . have I:Hd ((edL d.rp r0).take (2*(k+1))=(edL d.rp r0).take (2*k)++[wMn k d.rp (r0.x k),wMx k d.rp (r0.x k)]):=Za (by rcases Qtw k with rfl|rfl<;>rfl);have Y:=Za y;have Z:=Za ha
    have W:(k:Int)<2:=by omega
    have hw:IntKind.i64.wrap ((k:Int)+1)=((k+1:Nat):Int):=by rw[IntKind.wrap_i64]<;>omega
    clear y ha
    go_upto_region 8 with(first
     |(go_at_call 63;refine Sb (HW.o k hlt _ Z.o) fun v1 H=>?_)
     |(refine CS 140 _ _ rfl ?_;refine U5 140 [Vi (wMn k d.rp (r0.x k)),Vi (wMx k d.rp (r0.x k))] (.tmp 8) (.tmp 21) rfl D1 rfl ?_))
    have Q:=Blk.new v1 140 [Vi (wMn k d.rp (r0.x k)),Vi (wMx k d.rp (r0.x k))];have G:=Zb v1 (.cells #[Vi (wMn k d.rp (r0.x k)),Vi (wMx k d.rp (r0.x k))] 140);have x0:=(Q.cell (j:=0) rfl).1;have x1:=(Q.cell (j:=1) rfl).1;replace Z:=Za (Zc (Zc Z.o H) G);replace Y:=Za ((Y.o.lq H).lq G);clear Q G H;generalize v1.alloc (.cells #[Vi (wMn k d.rp (r0.x k)),Vi (wMx k d.rp (r0.x k))] 140)=v2 at *;generalize v1.heap.size=X at *;generalize wMn k d.rp (r0.x k)=y0 at *;generalize wMx k d.rp (r0.x k)=y1 at *;(try simp only[Act.put])
    go_wp2_with (at_builtin;refine U9 (rs':=[y0,y1]) (.tmp 22) (.tmp 27) WA F0 rfl rfl (Y.o.lq Vc) (Zc Z.o Vc).size (CA _ _ _) rfl (fun _=>rfl) Jom (by rw[List.length_take];show min _ 4+2<=_;omega) ?_;intro s' u' L hG);refine⟨⟨k+1,by omega,by go_num,?_,?_⟩,by simp[intOf];omega⟩
    . rw[I.o];exact L
    . have N:=Zc Z.o (Zb _ (.cells #[Vi y0,Vi y1] 3));exact Wi N ((Y.o.lq Vc).below N.size hG)
  . obtain rfl:k=2:=by omega
    replace y:CV w.heap.size wr u6 (edL d.rp r0):=y;obtain⟨q,O,rfl⟩:=y.slice;obtain⟨P,rfl,U,C⟩:=Row.at (f:=iL) (m:=1) (fun _=>rfl) y (by simp[edL]);have A:=Za (Zhr (some (Ad P 0)) O (edL d.rp r0) (by show 4<=1000;omega) (by simp[edL]) E.o wr (F.o.lq ha) ⟨P,0,rfl,U,fun j x hx=>by have:=C j x hx 0 _ rfl;simpa using this⟩);clear y C hk hlt;rw[show((2:Nat):Int)=2 from rfl]
    go_wp2_with (go_at_call 62;refine A.o.mono ?_;rintro e v1 ⟨rfl,hi⟩);go_ret2;exact⟨rfl,Zc ha hi⟩
end Go.Proofs.YtnepnnkdgejheaaGreatDoor
