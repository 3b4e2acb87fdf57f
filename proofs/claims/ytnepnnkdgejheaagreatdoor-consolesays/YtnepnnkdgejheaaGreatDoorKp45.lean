
import Derived.Test.YtnepnnkdgejheaaGreatDoorKp38
import Derived.Test.YtnepnnkdgejheaaGreatDoorKp41
import Derived.Test.YtnepnnkdgejheaaGreatDoorKp43
set_option maxRecDepth 100000
set_option maxHeartbeats 20000000
namespace Go.Proofs.YtnepnnkdgejheaaGreatDoor
open Go.RowKit Plain Tryz
variable {C:CR}{K:Act->World->Prop}{Q:Exit->Act->World->Prop}{a:Act}{c i n:Nat}{o:Oper}{row:Option Nat}{u:V6}{ys:List Value}
def wdL(x:Int):List Value:=[.int .u32 x]
theorem NX:prog.underlying 112=some (.slice 115):=by kernel_rfl
abbrev WdO:=RwO wdL 1 115
theorem Jnl(x:Int):∀v∈wdL x,v.oneCell'=true:=by
 intro v h;have:(wdL x).all (·.oneCell')=true:=rfl;exact List.all_eq_true.1 this v h
theorem WdO.wds{K:Nat}{a:V8}{l:V9}(h:WdO K u (.slice a n c) l)(hl:∀x∈l,0<=x/\x<4294967296):Wds u a l:=by
 refine⟨?_,hl⟩
 by_cases h0:l=[]
 . exact .inl h0
 . obtain⟨g,e,hc⟩:=RwO.at (f:=wdL) (m:=1) 0 (fun _=>rfl) h h0;refine .inr ⟨g,0,e,fun k hk=>?_⟩;have:=hc k hk 0 _ rfl;rw[Nat.mul_one,Nat.add_zero] at this;rw[Nat.zero_add];exact this
theorem Jki(w:V6)(r:Int):Lay (w.alloc (.cells #[.int .u32 r] 115)) (some (Ad w.heap.size 0)) (wdL r):=.inr ⟨_,0,rfl,(Blk.new w 115 (wdL r)).range⟩
section
variable {w u u' : World} {O : Nat} {a : Option Addr} {l : List Int} {cap q : Nat} {s : Value} {ws : List Int}
end
def spF(F:Ft)(r:Rd):Rd:=if F.2.1=1 then(r.1,r.2.1,r.2.2.1,F.2.2.2.2) else if F.2.1=2 then(r.1,r.2.1,r.2.2.1,cW (r.2.2.2+F.2.2.2.2)) else if F.2.1=3 then(r.1,r.2.1,0,r.2.2.2) else r
def sdF(b:Bool)(F:Ft)(r:Rd):List Rd:=if b then(if F.2.1=0 then[] else[spF F r]) else[r]
theorem Jqx(l:List Ft)(now ax k lab x:Int):chR l now ax k lab x=sdF (ail l now ax k false).isSome (alC (ail l now ax k false)) (lab,k,3,cW x):=by
 unfold chR
 cases ail l now ax k false<;>rfl
theorem Jqy(o:Option Ft):-262144<=(alC o).2.2.2.2/\(alC o).2.2.2.2<262144:=by
 cases o with
 |none=>decide
 |some f=>exact Jn9 _
theorem Jnm(w:V6)(r:Int):Lay (w.alloc (.cells #[.int .u32 r] 115)) (some (Ad w.heap.size 0)) ([r].flatMap wdL):=Jki w r
theorem NY(J:V8)(E:Nat)(l:List Ft)(now ax k lab x:Int)(hl:l.length<=1000)(h1:0<=lab/\lab<256)(h2:0<=k/\k<4)(w:V6)(I:Fts w J l):
 Va 47 #[.slice J l.length E,Vi now,Vi ax,Vi k,Vi lab,Vi x] w fun e w'=>(∃p c,e=.returned (.slice p (chR l now ax k lab x).length c)/\Lay w' p (((chR l now ax k lab x).map pk1).flatMap wdL))/\Bw w w':=by
 rw[Jqx];have K:=fun(x:Int)=>Yx x (-262144) 262143;have L:=fun(c d:Int) (hc:0<=c/\c<4) (hd:-262144<=d/\d<262144)=>Jim lab k c d (We h1 h2 hd (hc:=hc));have ha:=fun u (h:Bw w u)=>UZ J E l now ax k false hl u (I.lq h);have hF:=Jqy (ail l now ax k false);have hd:=NR x;have hi:∀u,Va 72 #[Vi x,Vi (-262144),Vi 262143] u (Re u (Vi (cW x))):=K x;generalize cW x=d at *;generalize alC (ail l now ax k false)=F at *;generalize (ail l now ax k false).isSome=b at *;obtain⟨Y,Z,X,Q,y⟩:=F
 unfold ftL at ha
 dsimp only at hF ha
 have O:=Za ha;have G:=Za L;clear I ha L h1 h2
 go_enter func47,ntmps47
 go_upto_region 2 with(go_at_call 72;refine Sm (hi _) ?_);have m:Hd (Blk 155 (w.alloc (.cells #[Vi lab,Vi k,Vi 3,Vi d] 155)) w.heap.size [Vi lab,Vi k,Vi 3,Vi d]):=Za (Blk.new w _ _);have H:=Za (Zb w (.cells #[Vi lab,Vi k,Vi 3,Vi d] 155));generalize w.alloc (.cells #[Vi lab,Vi k,Vi 3,Vi d] 155)=v0 at*
 go_upto_region 3 with(go_at_call 73;refine Sb (O.o _ H.o) fun v1 R=>?_;replace m:=Za (m.o.lq R);replace H:=Za (Zc H.o R);clear R);have M:=Zb v1 (.cells #[Vi Y,Vi Z,Vi X,Vi Q,Vi y] 64);have N:Hd (Blk 64 (v1.alloc (.cells #[Vi Y,Vi Z,Vi X,Vi Q,Vi y] 64)) v1.heap.size [Vi Y,Vi Z,Vi X,Vi Q,Vi y]):=Za (Blk.new v1 _ _);have U:Hd (v1.heap.size≠w.heap.size):=Za (by have:=m.o.lt;omega);replace m:=Za (m.o.lq M);replace H:=Za (Zc H.o M);clear M O;generalize v1.alloc (.cells #[Vi Y,Vi Z,Vi X,Vi Q,Vi y] 64)=v2 at *;generalize v1.heap.size=QX at *;have A:=(N.o.cell (j:=1) rfl).1;have B:=(N.o.cell (j:=4) rfl).1;have P:=m.o.cell (j:=2) rfl;have D:=m.o.cell (j:=3) rfl;have W:=U.o
 have hg:b=false\/(b=true/\Z=0)\/(b=true/\Z=1)\/(b=true/\Z=2)\/(b=true/\Z=3)\/(b=true/\¬Z=0/\¬Z=1/\¬Z=2/\¬Z=3):=by cases b<;>simp<;>omega
 rcases hg with rfl|⟨rfl,rfl⟩|⟨rfl,rfl⟩|⟨rfl,rfl⟩|⟨rfl,rfl⟩|⟨rfl,n0,n1,n2,n3⟩
 case inr.inl=>
  go_wp2_with fail;go_ret;exact⟨⟨none,0,rfl,.inl rfl⟩,H.o⟩
 case' inl=>
  go_upto_region 11 with fail;have HW:=Za (G.o 3 d (by omega) (by omega));have T:Hd (sdF false (Y,Z,X,Q,y) (lab,k,3,d)=[(lab,k,3,d)]):=Za rfl
 case' inr.inr.inl=>
  go_upto_region 11 with fail;have HW:=Za (G.o 3 y (by omega) (by omega));have T:Hd (sdF true (Y,1,X,Q,y) (lab,k,3,d)=[(lab,k,3,y)]):=Za rfl;replace m:=Za (m.o.set 3 (Vi y));replace H:=Za (H.o.setCell (p:=⟨w.heap.size,3,none⟩) (Nat.le_refl _) (Vi y));generalize v2.setCell _ _=v2 at*
 case' inr.inr.inr.inl=>
  have HV:=Wr (d+y)
  go_upto_region 11 with(go_at_call 72;refine Sm (K _ _) ?_);have HW:=Za (G.o 3 (Ze (d+y) (-262144) 262143) (by omega) (NR (d+y)));have T:Hd (sdF true (Y,2,X,Q,y) (lab,k,3,d)=[(lab,k,3,Ze (d+y) (-262144) 262143)]):=Za rfl;replace m:=Za (m.o.set 3 (Vi (Ze (d+y) (-262144) 262143)));replace H:=Za (H.o.setCell (p:=⟨w.heap.size,3,none⟩) (Nat.le_refl _) (Vi (Ze (d+y) (-262144) 262143)));clear HV;generalize v2.setCell _ _=v2 at *;generalize Ze (d+y) (-262144) 262143=dd at*
 case' inr.inr.inr.inr.inl=>
  go_upto_region 11 with fail;have HW:=Za (G.o 0 d (by omega) (by omega));have T:Hd (sdF true (Y,3,X,Q,y) (lab,k,3,d)=[(lab,k,0,d)]):=Za rfl;replace m:=Za (m.o.set 2 (Vi 0));replace H:=Za (H.o.setCell (p:=⟨w.heap.size,2,none⟩) (Nat.le_refl _) (Vi 0));generalize v2.setCell _ _=v2 at*
 case' inr.inr.inr.inr.inr=>
  go_upto_region 11 with fail;have HW:=Za (G.o 3 d (by omega) (by omega));have T:Hd (sdF true (Y,Z,X,Q,y) (lab,k,3,d)=[(lab,k,3,d)]):=Za (by simp[sdF,spF,n0,n1,n2,n3])
 all_goals
  clear A B P D N W U G K;have y0:=(m.o.cell (j:=0) rfl).1;have y1:=(m.o.cell (j:=1) rfl).1;have P:=(m.o.cell (j:=2) rfl).1;have D:=(m.o.cell (j:=3) rfl).1
  go_wp2_with (go_at_call 74;refine Sb (HW.o _) fun C R=>?_;replace H:=Za (Zc H.o R);clear R y0 y1 P D m);go_ret;exact⟨⟨some (Ad C.heap.size 0),1,by rw[T.o];rfl,by rw[T.o];exact Jnm C _⟩,Zc H.o (Zb C _)⟩
theorem Jsd{P:Program}{s:Value}{xs:List Value}{base e:Nat}{i:TypeInfo}{z:Value}{size bytes:Nat}{t:TypeId}(y w:Operand)(ho:o.op=.call { callee:=.builtin .append,args:=#[y,w],argTypes:=#[t,t] })(H:P.underlying t=some (.slice e))(hi:P.info? e=some i)(Y:i.zero=some z)(hc:i.size=size)(X:i.bytes=bytes){p:V8}{m:Nat}(hx:a.eval w=.slice p m c)(ha:u.ownsRow base e size s n xs)(hy:Lay u p ys)(hl:ys.length=m*size)(h1:∀v∈ys,v.oneCell'=true)(G:n+m<=maxLen)(R:(n+m)*bytes<=140737488355328)(hd:base<=u.heap.size)(h:∀s' u',u'.ownsRow base e size s' (n+m) (xs++ys)->u.grownBy u' s.ownBlock->K (a.put o.dst s') u')(Z:0<size:=by decide)(T:z.cells.size=size:=by rfl)(hs:a.eval y=s:=by rfl):o.wp P a u K Q:=by
 by_cases h0:m=0
 . subst h0
   have J:ys=[]:=by simpa using hl
   subst J
   unfold Oper.wp execOp
   simp only[ho,resolve,invoke,builtin,Sem.run_bind,Sem.run_pure,Result.andThen_ok,List.map_toArray,List.map_cons,List.map_nil,hs,hx,Zht H hi ha p c];exact h s u (by simpa using ha) (World.grownBy.refl _ _)
 . have hm':0<m:=by omega
   rcases hy with hy|⟨g,off,rfl,M⟩
   . subst hy;have:0<m*size:=Nat.mul_pos hm' Z
     simp at hl
     omega
   . exact wp_append_lies u y w t ho base e i z size bytes H hi Y hc X T Z s n xs hs ha ⟨g,off,none⟩ m c ys hx hl (fun j v N=>by rw[Addr.add_lit];exact M j v N) h1 hm' G R hd _ rfl
      (fun D cap w' h2 h3 _ _=>h _ _ h2 h3)
def WOw(v0 u:V6)(s:Value)(rs:List Rd):Prop:=WdO v0.heap.size u s (rs.map pk1)/\Bw v0 u
section
variable {v0 u u' : World} {s : Value} {rs ns : List Rd}
theorem WOw.nil(v0:V6):WOw v0 v0 (.slice none 0 0) []:=⟨RwO.nil _ _ _ _ _,Below.refl _ _⟩
theorem WOw.lq(h:WOw v0 u s rs)(y:Bw u u'):WOw v0 u' s rs:=⟨h.1.lq y,Zc h.2 y⟩
theorem Jcn(l:V9):∀v∈l.flatMap wdL,v.oneCell'=true:=fun v h=>by
 obtain⟨x,_,hx⟩:=List.mem_flatMap.1 h;exact Jnl x v hx
theorem Jco(l:V9):(l.flatMap wdL).length=l.length:=by
 induction l with
 |nil=>rfl
 |cons x r ih=>rw[List.flatMap_cons,List.length_append,ih];simp[wdL];omega
theorem WOw.app(h:WOw v0 u s rs){s':Value}(h1:u'.ownsRow v0.heap.size 115 1 s' ((rs.map pk1).length+ns.length) ((rs.map pk1).flatMap wdL++(ns.map pk1).flatMap wdL))(h2:u.grownBy u' s.ownBlock):WOw v0 u' s' (rs++ns):=by
 refine⟨?_,h.2.grown h2 h.2.size (fun k hk=>(World.ownsRow.lt h.1 k hk).1)⟩
 unfold WdO RwO
 rw[List.map_append,List.length_append,List.flatMap_append,show(ns.map pk1).length=ns.length by simp];exact h1
theorem M1{ops:Array Oper}{rest:List Oper}{p:V8}(j m:Operand)(ho:o.op=.call { callee:=.builtin .append,args:=#[j,m],argTypes:=#[112,112] })(hx:a.eval m=.slice p ns.length c)(ha:WOw v0 u s rs)(hy:Lay u p ((ns.map pk1).flatMap wdL))(Z:rs.length+ns.length<=1000)(h:∀y u',WOw v0 u' y (rs++ns)->wpList prog ops Q rest (a.put o.dst y) u')(e:o.guard=none:=by rfl)(hs:a.eval j=s:=by rfl):wpList prog ops Q (o::rest) a u:=by
 obtain⟨Y,hc,hd,w,H⟩:=info_parts IM;exact Mf j m ho NX hc hd w H hx ha.1 hy (by rw[Jco];simp) (Jcn _) (by unfold maxLen;simp;omega) (by simp;omega) ha.2.size (fun y u' h1 h2=>h y u' (ha.app h1 h2)) (by decide) rfl e hs
theorem Jqz{p:V8}(j m:Operand)(ho:o.op=.call { callee:=.builtin .append,args:=#[j,m],argTypes:=#[112,112] })(hx:a.eval m=.slice p ns.length c)(ha:WOw v0 u s rs)(hy:Lay u p ((ns.map pk1).flatMap wdL))(H:rs.length+ns.length<=1000)(h:∀y u',WOw v0 u' y (rs++ns)->K (a.put o.dst y) u')(hs:a.eval j=s:=by rfl):o.wp prog a u K Q:=by
 obtain⟨Z,e,hc,hd,w⟩:=info_parts IM;exact Jsd j m ho NX e hc hd w hx ha.1 hy (by rw[Jco];simp) (Jcn _) (by unfold maxLen;simp;omega) (by simp;omega) ha.2.size (fun y u' h1 h2=>h y u' (ha.app h1 h2)) (by decide) rfl hs
theorem ZQ(w:V6)(r:Rd):Lay (w.alloc (.cells #[.int .u32 (pk1 r)] 115)) (some (Ad w.heap.size 0)) (([r].map pk1).flatMap wdL):=Jki w (pk1 r)
end
theorem Jkj(C:CR)(hc:crE C=0)(w:V6):
 Va 46 #[.agg (crL C).toArray] w fun e w'=>(∃T,e=.returned (.agg (stL T).toArray)/\SaS T (q0 C).S/\SvL w' T (q0 C).sv)/\Bw w w':=by
 have r0:=(Yl hc (i:=0) (by omega)).1;have r1:=(Yl hc (i:=1) (by omega)).1;refine(Ji4 (C.a 0 0) (C.a 0 1) (C.a 0 2) (C.a 0 3) (C.a 0 4) (C.a 0 5) (C.a 0 6) (C.a 0 7) (C.a 0 8) (C.a 0 9) (C.a 0 10) (C.a 0 11) (C.a 0 14) (C.p 0) (C.q 0) (C.al 0).length (C.zl 0).length (C.cn 0) (C.cm 0) (C.a 1 0) (C.a 1 1) (C.a 1 2) (C.a 1 3) (C.a 1 4) (C.a 1 5) (C.a 1 6) (C.a 1 7) (C.a 1 8) (C.a 1 9) (C.a 1 10) (C.a 1 11) (C.a 1 14) (C.p 1) (C.q 1) (C.al 1).length (C.zl 1).length (C.cn 1) (C.cm 1) C.c0 C.c1 r0 r1 w).mono ?_;rintro e w' ⟨j,m,h,y,⟨X,Q⟩,rfl,H,Z,Y⟩;refine⟨⟨zT j m h y,rfl,⟨rfl,rfl,rfl⟩,fun i hi=>?_⟩,Y⟩;have ha:∀n:Nat,(List.replicate n svD).length=n:=fun n=>List.length_replicate
 rcases Qtw i with rfl|rfl
 . show h=(List.replicate (C.a 0 4).toNat svD).length/\(List.replicate (C.a 0 4).toNat svD).length<=9/\VLs w' (some (Ad j 0)) (List.replicate (C.a 0 4).toNat svD)
   rw[ha,show(C.a 0 4).toNat=h by omega];exact⟨rfl,by omega,PW H⟩
 . show y=(List.replicate (C.a 1 4).toNat svD).length/\(List.replicate (C.a 1 4).toNat svD).length<=9/\VLs w' (some (Ad m 0)) (List.replicate (C.a 1 4).toNat svD)
   rw[ha,show(C.a 1 4).toNat=y by omega];exact⟨rfl,by omega,PW Z⟩
structure FBx (w u:V6) (QC QF QS QR:Nat) (C:CR) (fl:List Value) (T:FS) (R:Rp):Prop where
 c:Blk 41 u QC (crL C)
 f:Blk 46 u QF fl
 s:Blk 110 u QS (stL T)
 r:Blk 75 u QR (rpL R)
 b:Bw w u
 n:w.heap.size<=QC/\QC<QF/\QF<QS/\QS<QR
section
variable {w u u' : World} {QC QF QS QR : Nat} {C : CR} {fl : List Value} {T T' : FS} {R R' : Rp} {sv : Nat -> List Sv}
theorem FBx.lq(h:FBx w u QC QF QS QR C fl T R)(y:Bw u u'):FBx w u' QC QF QS QR C fl T R:=
 ⟨h.c.lq y,h.f.lq y,h.s.lq y,h.r.lq y,Zc h.b y,h.n⟩
theorem FBx.oth(h:FBx w u QC QF QS QR C fl T R){B:Nat}(ho:Oth u u' B)(y:QR<B):FBx w u' QC QF QS QR C fl T R:=
 have n:=h.n
 ⟨ho.blk (by omega) h.c,ho.blk (by omega) h.f,ho.blk (by omega) h.s,ho.blk (by omega) h.r,h.b.grown ho.grown h.b.size (fun g e=>by cases e;omega),h.n⟩
theorem FBx.setS(h:FBx w u QC QF QS QR C fl T R)(T':FS):FBx w (u.setCells QS 0 (stL T').toArray.toList) QC QF QS QR C fl T' R:=by
 have n:=h.n;have ho:Oth u (u.setCells QS 0 (stL T').toArray.toList) QS:=Oth.setCells _ 0 u (Oth.refl u QS)
 have hs:Blk 110 (u.setCells QS 0 (stL T').toArray.toList) QS (stL T'):=by
  have k:=Blk.setCells (stL T').toArray.toList 0 u _ h.s;rw[show B8 (stL T) 0 (stL T').toArray.toList=stL T' from U1 _ _ rfl] at k;exact k
 exact⟨ho.blk (by omega) h.c,ho.blk (by omega) h.f,hs,ho.blk (by omega) h.r,h.b.grown ho.grown h.b.size (fun g e=>by cases e;omega),h.n⟩
theorem FBx.setR(h:FBx w u QC QF QS QR C fl T R)(R':Rp):FBx w (u.setCells QR 0 (rpL R').toArray.toList) QC QF QS QR C fl T R':=by
 have n:=h.n;have ho:Oth u (u.setCells QR 0 (rpL R').toArray.toList) QR:=Oth.setCells _ 0 u (Oth.refl u QR)
 have hs:Blk 75 (u.setCells QR 0 (rpL R').toArray.toList) QR (rpL R'):=by
  have k:=Blk.setCells (rpL R').toArray.toList 0 u _ h.r;rw[show B8 (rpL R) 0 (rpL R').toArray.toList=rpL R' from U1 _ _ rfl] at k;exact k
 exact⟨ho.blk (by omega) h.c,ho.blk (by omega) h.f,ho.blk (by omega) h.s,hs,h.b.grown ho.grown h.b.size (fun g e=>by cases e;omega),h.n⟩
theorem VO(h:u.grownBy u' row)(hn:row=none):Bw u u':=⟨h.os,h.tape,h.output,h.size,fun k hk=>h.block k hk (by rw[hn];simp)⟩
theorem FBx.grew(h:FBx w u QC QF QS QR C fl T R)(y:u.grownBy u' row)(j:∀g,row=some g->QR<g):FBx w u' QC QF QS QR C fl T R:=by
 cases row with
 |none=>exact h.lq (VO y rfl)
 |some g=>exact h.oth (Oth.of y) (j g rfl)
theorem SvL.grew(h:SvL u T sv)(y:u.grownBy u' row)(hn:∀g,row=some g->SvN T g):SvL u' T sv:=by
 cases row with
 |none=>exact h.lq (VO y rfl)
 |some g=>exact(Oth.of y).svl (hn g rfl) h
end
theorem Jss{S T:FS}{l:List Rd}{sv:Nat->List Sv}(h:T.bk=bkX C S l 2/\T.hd=(sS3 C S l sv).hd/\T.n=(sS3 C S l sv).n):stL T=stL { T with bk:=(sS3 C S l sv).bk }/\SaS { T with bk:=(sS3 C S l sv).bk } (sS3 C S l sv):=by
 obtain⟨y,j,m⟩:=Jse (C:=C) (S:=S) (S':=S) (l:=l) (sv:=sv) ⟨rfl,rfl,rfl⟩;refine⟨?_,rfl,h.2.1,h.2.2⟩
 unfold stL
 rw[h.1,y,j,m]
theorem Je9(C:CR)(l:List Ft)(n:Int)(q:FT)(s:Stp)(T:FS)(H:SaS T q.S)(h0:stE C q.S q.sv=0)(a:V8)(c:Nat)(ha:(saR C l n q.x q.at' s).length<=64)(w:V6)(hl:CrL w C)(Z:SvL w T q.sv)(hw:Wds w a ((saR C l n q.x q.at' s).map pk1)):
 Va 50 #[.agg (crL C).toArray,.agg (stL T).toArray,.slice a (saR C l n q.x q.at' s).length c] w fun e w'=>(∃y v,e=.returned (.tuple #[.agg (stL y).toArray,v])/\SaS y (A7 C l n q s).S/\SvL w' y (A7 C l n q s).sv/\SpN y w.heap.size)/\Bw w w':=by
 have h:=MG C T q.sv ((saR C l n q.x q.at' s).map pk1) a c w hl Z hw (by simpa using ha) ((KL H).trans h0);rw[show((saR C l n q.x q.at' s).map pk1).length=(saR C l n q.x q.at' s).length by simp] at h;refine h.mono ?_;rintro e w' ⟨y,g,c',rfl,Y,X,hG,_,_,Q⟩;obtain⟨G,j⟩:=Jss Y;obtain⟨m,R,_⟩:=NT (C:=C) (l:=l) (now:=n) (q:=q) (s:=s) H;refine⟨⟨{ y with bk:=(sS3 C T (gat A2 ((saR C l n q.x q.at' s).map pk1)) q.sv).bk },_,by rw[G],?_,?_,hG⟩,Q⟩
 . exact⟨j.1.trans m.1,j.2.1.trans m.2.1,j.2.2.trans m.2.2⟩
 . rw[<-R];exact X
theorem Jnn{n:Int}{q:FT}(h:GI C n q)(hi:i<2)(k:Nat):(-2000<=(A0 (q.sv i) k).1/\(A0 (q.sv i) k).1<=2000)/\((A0 (q.sv i) k).2.2=true->(A0 (q.sv i) k).1=0):=by
 by_cases hk:k<(q.sv i).length
 . have y:=Yh (KU h.cr hi);have:=Y2 (Ui (CD _ (Xm h.st hi).2 k hk)).2;exact⟨by omega,this.2.2.1⟩
 . have e:A0 (q.sv i) k=svD:=by unfold A0;rw[List.getD_eq_getElem?_getD,List.getElem?_eq_none (by omega)];rfl
   rw[e];exact⟨by decide,fun _=>rfl⟩
theorem ZR(C:CR)(j:V8)(e:Nat)(l:List Ft)(n:Int)(q:FT)(s:Stp)(T:FS)(R:Rp)(hl:l.length<=1000)(hn:0<=n/\n<=1000)(H:SaS T (A7 C l n q s).S)(m:∀i,i<2->R.x i=q.x i/\∀k,k<4->R.a i k=q.at' i k)(y:GI C n q)(hs:SA C s)(w:V6)(Y:SvL w T (A7 C l n q s).sv)(X:Fts w j l):
 Va 51 #[.agg (crL C).toArray,.slice j l.length e,.agg (stL T).toArray,.agg (rpL R).toArray,.agg (A6 s).toArray,Vi n] w (Rt w (.agg (rpL (rpF (A7 C l n q s))).toArray)):=by
 have Z:=y.step (l:=l) (now:=n) hs
 have ha:∀i,i<2->((A7 C l n q s).sv i).length=(C.a i 4).toNat:=fun i hi=>by have:=Z.len hi;omega
 have h:=QM C j e l T (A7 C l n q s).sv R s n hl (fun i hi=>(Yl y.cr hi).1) (fun i hi=>by have:=Yh (KU y.cr hi);omega) ha (fun i hi=>Jnn Z hi) (fun i hi=>by have:=(m i hi).1;have:=y.x i hi;omega) (fun i hi=>by have:=hs.p i hi;have:=Yl y.cr hi;omega) w Y X;rw[show rpL (rpN C l n T (A7 C l n q s).sv R s)=rpL (rpF (A7 C l n q s)) from ?_] at h
 . exact h
 . refine Jce (fun i hi=>⟨?_,?_,?_,fun k hk=>?_⟩) H.2.2
   . show R.x i+_+_=q.x i+_+_
     rw[(m i hi).1]
     rfl
   . show Zt (T.bk i).o 3=Zt ((A7 C l n q s).S.bk i).o 3
     rw[H.1]
   . show AI _ _=AI _ _
     rw[ha i hi]
   . show(if _ then _ else R.a i k)=(if _ then _ else q.at' i k)
     rw[(m i hi).2 k hk]
     rfl
theorem Jfa{u':V6}{p:V8}(h:Lay u p ys)(y:Bw u u'):Lay u' p ys:=by
 rcases h with h|⟨g,off,e,j⟩
 . exact .inl h
 . exact .inr ⟨g,off,e,Zf j y⟩
theorem Jsf(C:CR)(hi:i<2):(crL C)[i*15+2]?=some (Vi (C.a i 2)):=by
 rcases Qtw i with rfl|rfl<;>rfl
theorem Jq0(s:Stp)(hi:i<2):(A6 s)[4+i]?=some (Vi (s.z i)):=by rcases Qtw i with rfl|rfl<;>rfl
theorem Jq1(s:Stp)(hi:i<2):(A6 s)[i]?=some (Vi (s.k i)):=by rcases Qtw i with rfl|rfl<;>rfl
theorem ZT(C:CR)(G:V8)(J:Nat)(l:List Ft)(I:V8)(B:Nat)(H:List Stp)(hc:crE C=0)(hs:∀k,k<H.length->SA C (BI H k))(hl:l.length<=20)(hn:H.length<=300)(w:V6)(hq:CrL w C)(hF:Fts w G l)(hS:Sts w I H):
 Va 26 #[.agg (crL C).toArray,.agg #[.slice G l.length J,.slice I H.length B]] w fun e w'=>(∃s,e=.returned s/\RpO w.heap.size w' s (rpU C l H H.length))/\Bw w w':=by
 have HP:=Za (Jkj C hc);have HQ:=Za (PQ (l:=l) hc hs);have HSS:=Za hs;have HCL:=Za (fun u (h:Bw w u)=>hq.lq h);have HR:=Za (fun u (h:Bw w u)=>hF.lq h);have HST:=Za (fun u (h:Bw w u)=>hS.lq h);have Hj:=Za hc;have W:=Za ((Blk.new w 41 (crL C)).lq (Zb _ (.cells #[.slice G l.length J,.slice I H.length B] 46)));have HF:Hd (Blk 46 ((w.alloc (.cells (crL C).toArray 41)).alloc (.cells #[.slice G l.length J,.slice I H.length B] 46)) (w.heap.size+1) [.slice G l.length J,.slice I H.length B]):=Za (by have:=Blk.new (w.alloc (.cells (crL C).toArray 41)) 46 [.slice G l.length J,.slice I H.length B];rw[World.size_alloc] at this;exact this);have HB:=Za (Zc (Zb w (.cells (crL C).toArray 41)) (Zb _ (.cells #[.slice G l.length J,.slice I H.length B] 46)));have Hp:Hd (w.heap.size<=w.heap.size/\w.heap.size<w.heap.size+1):=Za (by omega);clear hq hF hS hs hc
 go_enter func26,ntmps26
 go_upto_region 1 with fail;generalize (w.alloc _).alloc _=v0 at *;generalize w.heap.size+1=QF at *;generalize ht:w.heap.size=QC at W|-;have Hp:Hd (w.heap.size<=QC/\QC<QF):=Za (by rw[<-ht];exact Hp.o);clear ht
 go_upto_region 2 with(first
  |(refine Lm 41 (.tmp 2) rfl QC 0 (crL C) W.o.range underlying41 Zr ?_)
  |(go_at_call 46;refine(HP.o _).mono ?_;rintro e v1 ⟨⟨T,rfl,hT,hV⟩,Z⟩;replace W:=Za (W.o.lq Z);replace HF:=Za (HF.o.lq Z);replace HB:=Za (Zc HB.o Z);have HT:=Za hT;have HV:=Za hV;clear Z hT hV)
  |(refine Sq 110 _ _ rfl ?_;refine Mm (c':=(stL T).toArray) (.tmp 5) (.tmp 17) rfl rfl rfl rfl rfl rfl (EF T) ?_))
 have Y:=Zb v1 (.cells (stL T).toArray 110);have HD:Hd (Blk 110 (v1.alloc (.cells (stL T).toArray 110)) v1.heap.size (stL T)):=Za (Blk.new v1 _ _);have HS:Hd (QF<v1.heap.size):=Za HF.o.lt;have HU:Hd (SvN T v1.heap.size):=Za (fun i hi g o e=>Nat.ne_of_lt (YW (HV.o i hi).2.2 (by have:=Yl Hj.o hi;show 1<=(List.replicate (C.a i 4).toNat svD).length;rw[List.length_replicate];omega) g o e));replace W:=Za (W.o.lq Y);replace HF:=Za (HF.o.lq Y);replace HB:=Za (Zc HB.o Y);replace HV:=Za (HV.o.lq Y);clear Y HP;generalize v1.alloc (.cells (stL T).toArray 110)=v2 at *;generalize v1.heap.size=QS at*
 go_upto_region 3 with fail;have Y:=Zb v2 (.cells (rpL rpD).toArray 75);have HZ:Hd (Blk 75 (v2.alloc (.cells (rpL rpD).toArray 75)) v2.heap.size (rpL rpD)):=Za (Blk.new v2 _ _);have HQ2:Hd (QS<v2.heap.size):=Za HD.o.lt;have Hq:Hd (SvN T v2.heap.size):=Za (fun i hi g o e=>Nat.ne_of_lt (YW (HV.o i hi).2.2 (by have:=Yl Hj.o hi;show 1<=(List.replicate (C.a i 4).toNat svD).length;rw[List.length_replicate];omega) g o e));replace HV:=Za (HV.o.lq Y);have Hk:Hd (FBx w (v2.alloc (.cells (rpL rpD).toArray 75)) QC QF QS v2.heap.size C [.slice G l.length J,.slice I H.length B] T rpD):=Za ⟨W.o.lq Y,HF.o.lq Y,HD.o.lq Y,HZ.o,Zc HB.o Y,Hp.o.1,Hp.o.2,HS.o,HQ2.o⟩
 show Code.wp _ _ _ _ (v2.alloc (.cells (rpL rpD).toArray 75))
 clear Y W HF HD HZ HB Hp HS;generalize v2.alloc _=v3 at *;generalize v2.heap.size=QR at*
 go_upto_region 5 with fail
 go_loopw [7,8] (fun rep ix wr=>∃(n:Nat) (T:FS) (R:Rp),n<=H.length/\ix=Vi n/\SaS T (flU C l H n).S/\SvL wr T (flU C l H n).sv/\(SvN T QS/\SvN T QR)/\(∀i,i<2->R.x i=(flU C l H n).x i/\∀k,k<4->R.a i k=(flU C l H n).at' i k)/\FBx w wr QC QF QS QR C [.slice G l.length J,.slice I H.length B] T R/\RpO (QR+1) wr rep (rpU C l H n)) (fun _ ix _=>H.length-(intOf ix).toNat)
 case atStart=>exact⟨0,T,_,by omega,rfl,HT.o,HV.o,⟨HU.o,Hq.o⟩,fun _ _=>⟨rfl,fun _ _=>rfl⟩,Hk.o,RpO.nil _ _⟩
 case round=>
  clear HT HV HU Hq Hk;obtain⟨n,T,R,hL,rfl,hT,hV,hu,ho,ha,hj⟩:=hrel
  by_cases hlt:n<H.length
  . obtain⟨b,off,rfl,M⟩:=(HST.o wr ha.b).at hlt;have Hu:Hd (flU C l H (n+1)=A7 C l n (flU C l H n) (BI H n)):=Za rfl;have H0:Hd (rpU C l H (n+1)=rpU C l H n++[rpF (flU C l H (n+1))]):=Za rfl;have HRL:Hd ((rpU C l H n).length<=1000):=Za (by rw[CH];omega);have HG:=Za (HQ.o n hL);have Hv:=Za (HSS.o n hlt);have HG1:=Za (HQ.o (n+1) hlt);have H1:Hd (∀g,Value.ownBlock u7=some g->QR+1<=g/\g<wr.heap.size):=Za (fun g hg=>World.ownsRow.lt hj g hg)
    have n0:(0:Int)<=(n:Int):=by omega
    have n1:(n:Int)<(H.length:Int):=by omega
    rw[Hu.o] at H0 HG1;generalize flU C l H n=q at *;generalize BI H n=s at *;have c0:=M 0 _ rfl;have c1:=M 1 _ rfl;have c2:=M 2 _ rfl;have c3:=M 3 _ rfl;have c4:=M 4 _ rfl;have c5:=M 5 _ rfl;have c6:=M 6 _ rfl;have c7:=M 7 _ rfl;simp only[Nat.add_zero] at c0;have L:=(ha.f.cell (j:=1) rfl).1;have Hr:Hd (QR<wr.heap.size):=Za ha.r.lt;have Y:=Zb wr (.cells (A6 s).toArray 70);have HX:Hd (Blk 70 (wr.alloc (.cells (A6 s).toArray 70)) wr.heap.size (A6 s)):=Za (Blk.new wr _ _);have Hk:=Za (ha.lq Y);have H2:=Za (hV.lq Y);have Hw:=Za (hj.lq Y);have HT:=Za hT;have HE:=Za ho;have HSZ:Hd (wr.heap.size<(wr.alloc (.cells (A6 s).toArray 70)).heap.size):=Za HX.o.lt;have H3:Hd (wr.alloc (.cells #[Vi (s.k 0),Vi (s.k 1),Vi (s.p 0),Vi (s.p 1),Vi (s.z 0),Vi (s.z 1),Vi s.v,.bool s.g] 70)=wr.alloc (.cells (A6 s).toArray 70)):=Za rfl;clear M ha hV hj hu hT ho Y
    go_upto_region 8 with fail;rw[H3.o];clear H3 c0 c1 c2 c3 c4 c5 c6 c7 L;generalize wr.alloc (.cells (A6 s).toArray 70)=v0 at *;generalize wr.heap.size=QX at *;have HH:=Za (fun u (h:Bw v0 u)=>HR.o u (Zc Hk.o.b h));have Hl:=Za (fun u (h:Bw v0 u)=>HX.o.lq h);have Hm:=Za (fun u (h:Bw v0 u)=>Hk.o.lq h);have H4:=Za (WOw.nil v0);have HI:=Za (IP C l n q.x q.at' s (fun i hi=>(Yl Hj.o hi).1.2))
    go_upto_region 10 with fail
    go_loopw [10,11] (fun wv ix u=>∃i:Nat,i<=2/\ix=Vi i/\WOw v0 u wv (axU C l n q.x q.at' s i)) (fun _ ix _=>2-(intOf ix).toNat)
    case atStart=>exact⟨0,by omega,rfl,H4.o⟩
    case round=>
     clear H4;obtain⟨i,hO,rfl,hw⟩:=hrel;rename World=>wi
     by_cases hi:i<2
     . have i0:(0:Int)<=(i:Int):=by omega
       have i1:(i:Int)<2:=by omega
       have HW:=Za hw;have hM:=((Hl.o wi hw.2).cell (Jq0 s hi)).1;have Hx:Hd (0<=C.a i 2/\C.a i 2<=1000):=Za (by have g:=Jiu Hj.o hi;have:=g.n0;have:=g.n1;omega);have H5:=Za (Hv.o.z i hi);have HXB:=Za (HG.o.x i hi);have H6:=Za (YR (2*C.a i 2+1) (s.z i) (by have:=Hx.o;omega) H5.o.1);have H7:Hd (axU C l n q.x q.at' s (i+1)=axU C l n q.x q.at' s i++(chU l n i (C.a i 2) (q.x i) (s.z i) 3++suU i (q.at' i) (C.a i 4).toNat++[(32+(i:Int),3,3,s.k i)])):=Za rfl;have Hh:=Za (HI.o i (by omega));clear hw;generalize axU C l n q.x q.at' s i=ai at*
       go_upto_region 14 with fail;clear hM
       go_loopw [10,12,13] (fun wv nz ix u=>∃k:Nat,k<=3/\ix=Vi k/\nz=Vi (dig (2*C.a i 2+1) (s.z i) k)/\WOw v0 u wv (ai++chU l n i (C.a i 2) (q.x i) (s.z i) k)) (fun _ _ ix _=>3-(intOf ix).toNat)
       case atStart=>exact⟨0,by omega,rfl,rfl,by rw[chU,List.append_nil];exact HW.o⟩
       case round=>
        clear HW;obtain⟨k,hk,rfl,rfl,hw⟩:=hrel;rename World=>P
        by_cases hk3:k<3
        . have k0:(0:Int)<=(k:Int):=by omega
          have k1:(k:Int)<3:=by omega
          have Hb:=Za (Hm.o P hw.2);have L:=(Hb.o.f.cell (j:=0) rfl).1;have xr:=(Hb.o.r.cell (Jjj R hi)).1;rw[(HE.o i hi).1] at xr;have xN:=(Hb.o.c.cell (Jsf C hi)).1;have Hs:Hd (P.rangeAt QC (i*15) (axL C i)):=Za (by have h:=Hb.o.c.sub (i*15) 15;rw[IB C hi] at h;exact h);have hv:=Jkh C i Hx.o.1 Hx.o.2;have hd:=H6.o k;have hN:=Hx.o;have hx:=HXB.o;have hz:=H5.o;have Hy:Hd (chU l n i (C.a i 2) (q.x i) (s.z i) (k+1)=chU l n i (C.a i 2) (q.x i) (s.z i) k++chR l n i k (1+i) (q.x i+noi (C.a i 2) (s.z i) k)):=Za rfl;have HDK:Hd (dig (2*C.a i 2+1) (s.z i) (k+1)=dig (2*C.a i 2+1) (s.z i) k/(2*C.a i 2+1)):=Za rfl;have H8:Hd (q.x i+noi (C.a i 2) (s.z i) k=q.x i+dig (2*C.a i 2+1) (s.z i) k%(2*C.a i 2+1)-C.a i 2):=Za (by unfold noi;omega);have hA:=CF l n i k (1+i) (q.x i+noi (C.a i 2) (s.z i) k);have hp:=CG l n i (C.a i 2) (q.x i) (s.z i) k;have he:=fun u (h:Bw v0 u)=>NY G J l n i k (1+i) (q.x i+noi (C.a i 2) (s.z i) k) (by omega) (by omega) (by omega) u (HH.o u h);rw[H8.o] at Hy hA he;have HW:=Za hw;clear hw H8;generalize chU l n i (C.a i 2) (q.x i) (s.z i) k=ck at *;generalize dig (2*C.a i 2+1) (s.z i) k=D at *;generalize q.x i=xx at*
          have b0:0<2*C.a i 2+1:=by omega
          have m0:=Int.emod_nonneg D (b:=2*C.a i 2+1) (by omega);have m1:=Int.emod_lt_of_pos D b0;have hP:D.tmod (2*C.a i 2+1)=D%(2*C.a i 2+1):=Int.tmod_eq_emod_of_nonneg hd.1;have hQ:D.tdiv (2*C.a i 2+1)=D/(2*C.a i 2+1):=Int.tdiv_eq_ediv_of_nonneg hd.1;generalize C.a i 2=N at *;generalize hR:2*N+1=bN at *;generalize chR l n i k (1+i) (xx+D%bN-N)=cr at *;generalize D%bN=rm at *;have w1:=Wr (1+(i:Int));have w2:=Wr (xx+rm);have w3:=Wr (xx+rm-N)
          have bz:¬bN=0:=by omega
          have w7:IntKind.i64.wrap (D/bN)=D/bN:=Xj (by have:=Int.ediv_nonneg hd.1 (show 0<=bN by omega);omega) (by have:=Int.ediv_le_self bN hd.1;omega)
          go_upto_region 16 with fail;refine Ct [43,44,45,46,47,48,49,50,51,52,53,54,55,56,57,58,59,60,61,62,63,64,65,66,67,68,69] ?_;refine Cp 0 43 [] ?_;refine Cp 1 44 [] ?_;refine Cy (V5 L) 2 45 [1] ?_;refine Cp 3 46 [] ?_;refine Cp 4 47 [] ?_;refine Cp 5 48 [] ?_;refine Cp 6 49 [] ?_;refine Cp 7 50 [6] ?_;refine Cp 8 51 [] ?_;refine Cp 9 52 [] ?_;refine Cp 10 53 [8,9] ?_;refine Cy (V5 xr) 11 54 [10] ?_;refine Cp 12 55 [] ?_;refine Cp 13 56 [] ?_;refine Cp 14 57 [] ?_;refine Cp 15 58 [13,14] ?_;refine Cr (x:=.tmp 58) 16 59 [15] (fun y w h hF=>⟨Zf Hs.o h,hF.1⟩) underlying38 Zq ?_;refine Cc 17 60 [16] (fun y w h _=>hv _) ?_;refine Cp 18 61 [12,17] ?_;refine Cp 19 62 [11,18] ?_;refine Cp 20 63 [] ?_;refine Cp 21 64 [] ?_;refine Cp 22 65 [20,21] ?_;refine Cp 23 66 [22] ?_;refine Cy (V5 xN) 24 67 [23] ?_;refine Cp 25 68 [19,24] ?_;refine Cd 26 69 [2,3,4,5,7,25] (fun v u=>∃p c,v=.slice p cr.length c/\Lay u p ((cr.map pk1).flatMap wdL)) (fun y w h _=>(he _ (Zc HW.o.2 h)).mono (by rintro e w' ⟨⟨p,c,rfl,hy⟩,Z⟩;exact⟨_,rfl,⟨p,c,rfl,hy⟩,Z⟩)) (fun _ _ _ ⟨p,c,h1,h2⟩ Z=>⟨p,c,h1,Jfa h2 Z⟩) ?_;refine Cn 2 29 [27,28] (fun y u1 hB hf=>?_);obtain⟨p,c,e,hy⟩:=hf.1;simp only[e];have HY:=Za hy;replace HW:=Za (HW.o.lq hB);clear hy e hf hB L xr xN Hs he Hb;refine Ra 27 (fun K hK=>?_);rw[if_pos (by rfl)];refine Jqz (.tmp 43) (.tmp 69) rfl rfl HW.o HY.o (by rw[List.length_append];have:=Hh.o;omega) (fun s9 u9 Q=>?_);replace HW:=Za Q;clear Q HY;refine hK.out _ _ trivial (fun _=>?_);clear hK K;refine Ra 28 (fun K hK=>?_);go_simp;refine hK.out _ _ trivial (fun _=>?_);clear hK K;refine Dn ?_;go_simp;generalize u9=v4 at HW|-;refine Ek ?_;have Hs:Hd (v4.rangeAt QC (i*15) (axL C i)):=Za (by have h:=(Hm.o v4 HW.o.2).c.sub (i*15) 15;rw[IB C hi] at h;exact h)
          go_wp2_with (first
           |(refine EM 38 _ rfl ?_;refine wpList_load_mid rfl 38 (.tmp 74) rfl QC (i*15) rfl (axL C i) _ Hs.o underlying38 rfl Zq ?_)
           |(go_at_call 48;refine Sb (hv _) fun E Z=>?_;replace HW:=Za (HW.o.lq Z);clear Z Hs))
          go_roundw
          case rel=>exact⟨k+1,by omega,by go_num,by rw[HDK.o],by rw[Hy.o,<-List.append_assoc];exact HW.o⟩
          case measure=>simp[intOf];omega
        . obtain rfl:k=3:=by omega
          have H9:Hd (∃m:Nat,C.a i 4=(m:Int)/\(C.a i 4).toNat=m/\m<=4):=Za ⟨(C.a i 4).toNat,by have:=Yl Hj.o hi;omega,rfl,by have:=Yl Hj.o hi;omega⟩;obtain⟨m,hm,hC,hU⟩:=H9.o;have hp:=CG l n i (C.a i 2) (q.x i) (s.z i) 3;rw[hC] at H7;have HW:=Za hw;clear hw H9 H6 hC;generalize chU l n i (C.a i 2) (q.x i) (s.z i) 3=ck at*
          go_upto_region 19 with fail
          go_loopw [10,14] (fun wv ix u=>∃k:Nat,k<=m/\ix=Vi k/\WOw v0 u wv (ai++(ck++suU i (q.at' i) k))) (fun _ ix _=>m-(intOf ix).toNat)
          case atStart=>exact⟨0,by omega,rfl,by rw[suU,List.append_nil];exact HW.o⟩
          case round=>
           clear HW;obtain⟨k,hk,rfl,hw⟩:=hrel;rename World=>wj;have Hb:=Za (Hm.o wj hw.2);have xm:=(Hb.o.c.cell (Jb8 C hi)).1;rw[hm] at xm;have hD:=EE i (q.at' i) k
           by_cases hkm:k<m
           . have k0:(0:Int)<=(k:Int):=by omega
             have k1:(k:Int)<(m:Int):=by omega
             have k4:(k:Int)<4:=by omega
             have xa:=(Hb.o.r.cell (Jr6 R hi (show k<4 by omega))).1;rw[(HE.o i hi).2 k (by omega)] at xa;have hh:=Np (16+4*(i:Int)+(k:Int)) 3 (q.at' i k) (We (by omega) (by omega) (by have:=HG.o.at4 i hi k (by omega);omega));have HSK:Hd (suU i (q.at' i) (k+1)=suU i (q.at' i) k++[(16+4*(i:Int)+k,3,3,q.at' i k)]):=Za rfl;have HW:=Za hw;clear hw;generalize suU i (q.at' i) k=sk at *;generalize q.at' i k=ak at *;have w4:=Wr (4*(i:Int));have w5:=Wr (16+4*(i:Int));have w6:=Wr (16+4*(i:Int)+(k:Int))
             go_wp2_with (first
              |(go_at_call 49;refine Sb (hh _) fun E Z=>?_;replace HW:=Za ((HW.o.lq Z).lq (Zb E (.cells #[.int .u32 (pk1 (16+4*(i:Int)+(k:Int),3,3,ak))] 115)));have F:=Za (ZQ E (16+4*(i:Int)+(k:Int),3,3,ak));clear Z xm xa)
              |(at_builtin;refine M1 (ns:=[(16+4*(i:Int)+(k:Int),3,3,ak)]) (.tmp 87) (.tmp 100) rfl rfl HW.o F.o (by rw[List.length_append,List.length_append,hD];have:=Hh.o;simp only[List.length_cons,List.length_nil];omega) (fun s9 u9 Q=>?_);replace HW:=Za Q;clear Q))
             go_roundw
             case rel=>(repeat apply Exists.intro);exact⟨⟨k+1,by omega,by go_num,by rw[HSK.o,<-List.append_assoc ck,<-List.append_assoc ai];exact HW.o⟩,rfl⟩
             case measure=>simp[intOf];omega
           . obtain rfl:k=m:=by omega
             have xk:=((Hl.o wj hw.2).cell (Jq1 s hi)).1;have hh:=Np (32+(i:Int)) 3 (s.k i) (We (by omega) (by omega) (by have:=Hv.o.k i hi;omega));have HW:=Za hw;clear hw;generalize suU i (q.at' i) k=sk at *;generalize s.k i=ak at *;have w4:=Wr (32+(i:Int))
             go_wp2_with (first
              |(go_at_call 49;refine Sb (hh _) fun E Z=>?_;replace HW:=Za ((HW.o.lq Z).lq (Zb E (.cells #[.int .u32 (pk1 (32+(i:Int),3,3,ak))] 115)));have F:=Za (ZQ E (32+(i:Int),3,3,ak));clear Z xm xk)
              |(at_builtin;refine M1 (ns:=[(32+(i:Int),3,3,ak)]) (.tmp 102) (.tmp 110) rfl rfl HW.o F.o (by rw[List.length_append,List.length_append,hD];have:=Hh.o;simp only[List.length_cons,List.length_nil];omega) (fun s9 u9 Q=>?_);replace HW:=Za Q;clear Q))
             go_roundw
             case rel=>exact⟨i+1,by omega,by go_num,by rw[H7.o,<-List.append_assoc];exact HW.o⟩
             case measure=>simp[intOf];omega
     . obtain rfl:i=2:=by omega
       have HW:=Za hw;have Hh:=Za (HI.o 2 (by omega));have Hn:Hd (saR C l n q.x q.at' s=axU C l n q.x q.at' s 2++spR l n s.v 3++(if s.g then[(40,3,3,1)] else[])):=Za rfl;have HGM:=Za (HG.o.may (l:=l) (now:=n) Hv.o);clear hw HI;generalize axU C l n q.x q.at' s 2=ai at*
       go_upto_region 24 with fail
       go_loopw [10,15] (fun wv ix u=>∃k:Nat,k<=3/\ix=Vi k/\WOw v0 u wv (ai++spR l n s.v k)) (fun _ ix _=>3-(intOf ix).toNat)
       case atStart=>exact⟨0,by omega,rfl,by rw[spR,List.append_nil];exact HW.o⟩
       case round=>
        clear HW;obtain⟨k,hk,rfl,hw⟩:=hrel;rename World=>P;have hp:=IN l n s.v k;have xv:=((Hl.o P hw.2).cell (show(A6 s)[6]?=some (Vi s.v) from rfl)).1;have xg:=((Hl.o P hw.2).cell (show(A6 s)[7]?=some (.bool s.g) from rfl)).1
        by_cases hk3:k<3
        . have k0:(0:Int)<=(k:Int):=by omega
          have k1:(k:Int)<3:=by omega
          have L:=((Hm.o P hw.2).f.cell (j:=0) rfl).1;have Hy:Hd (spR l n s.v (k+1)=spR l n s.v k++chR l n 2 k 8 s.v):=Za rfl;have hA:=CF l n 2 k 8 s.v;have he:=fun u (h:Bw v0 u)=>NY G J l n 2 k 8 s.v (by omega) (by omega) (by omega) u (HH.o u h);have HW:=Za hw;clear hw xg;generalize chR l n 2 k 8 s.v=cr at *;generalize spR l n s.v k=ck at*
          go_wp2_with (first
           |(go_at_call 47;refine(he _ HW.o.2).mono ?_;rintro e E ⟨⟨p,c,rfl,hy⟩,Z⟩;replace HW:=Za (HW.o.lq Z);have F:=Za hy;clear Z hy L xv he)
           |(at_builtin;refine M1 (.tmp 116) (.tmp 123) rfl rfl HW.o F.o (by rw[List.length_append];have:=Hh.o;omega) (fun s9 u9 Q=>?_);replace HW:=Za Q;clear Q))
          go_roundw
          case rel=>(repeat apply Exists.intro);exact⟨⟨k+1,by omega,by go_num,by rw[Hy.o,<-List.append_assoc];exact HW.o⟩,rfl⟩
          case measure=>simp[intOf];omega
        . obtain rfl:k=3:=by omega
          have hh:=Np 40 3 1 (We (by omega) (by omega) (by omega));have HW:=Za hw;clear hw xv;generalize spR l n s.v 3=ck at*
          cases hg:s.g
          case' false=>
           rw[hg] at xg
           go_upto_region 29 with fail;rw[hg,if_neg (by simp),List.append_nil] at Hn;rw[<-Hn.o] at HW;generalize u10=wv at*
          case' true=>
           rw[hg] at xg
           go_upto_region 29 with(first
            |(go_at_call 49;refine Sb (hh _) fun E Z=>?_;replace HW:=Za ((HW.o.lq Z).lq (Zb E (.cells #[.int .u32 (pk1 (40,3,3,1))] 115)));have F:=Za (ZQ E (40,3,3,1));clear Z)
            |(at_builtin;refine M1 (ns:=[(40,3,3,1)]) (.tmp 127) (.tmp 129) rfl rfl HW.o F.o (by rw[List.length_append];have:=Hh.o;simp only[List.length_cons,List.length_nil];omega) (fun wv P Q=>?_);replace HW:=Za Q;clear Q F))
           rw[hg,if_pos rfl] at Hn;rw[<-Hn.o] at HW
          all_goals
           clear xg hh hg;obtain⟨a,c,hE⟩:=HW.o.1.slice;rw[List.length_map] at hE;subst hE;have X:=Za (Hm.o P HW.o.2);have HV6:=Za (H2.o.lq HW.o.2);have O:=Za (Hw.o.lq HW.o.2);have Ho:=Za (Hl.o P HW.o.2);have HWD:=Za (WdO.wds HW.o.1 (fun x hx=>by obtain⟨r,M,rfl⟩:=List.mem_map.1 hx;exact Jb0 (HGM.o r M)));have H64:Hd ((saR C l n q.x q.at' s).length<=64):=Za (by rw[Hn.o];have:=Hh.o;simp only[List.length_append,List.length_cons,List.length_nil];omega);have Hc:Hd (QX<P.heap.size):=Za (Nat.lt_of_lt_of_le HSZ.o HW.o.2.size);have hG:=Je9 C l n q s T HT.o HG.o.st a c H64.o;clear HW H2 Hw Hl HX Hk Hm HH Hn Hh hp
           go_upto_region 30 with(first
            |(refine Lm 41 (.tmp 2) rfl QC 0 (crL C) X.o.c.range underlying41 Zr ?_)
            |(refine Lm 110 (.tmp 5) rfl QS 0 (stL T) X.o.s.range underlying110 (Mw T) ?_)
            |(go_at_call 50;refine(hG _ (HCL.o _ X.o.b) HV6.o HWD.o).mono ?_;rintro e v7 ⟨⟨U,tv,rfl,hT',hV',hH⟩,Z⟩;replace X:=Za (X.o.lq Z);replace O:=Za (O.o.lq Z);replace Ho:=Za (Ho.o.lq Z);have HT':=Za hT';have Hi:=Za hV';have Ht:=Za hH;clear hT' hV' hH Z)
            |(refine Sq 110 _ _ rfl ?_;refine wpList_store_mid rfl 110 (.tmp 5) (.tmp 136) rfl QS 0 (stL U).toArray rfl rfl (X.o.s.there (Nat.le_of_ble_eq_true rfl)) Yj (EF U) ?_))
           have Hz:=Za X.o.n;have HC:Oth v7 (v7.setCells QS 0 (stL U).toArray.toList) QS:=Oth.setCells _ 0 v7 (Oth.refl v7 QS);replace X:=Za (X.o.setS U);replace Hi:=Za (HC.svl (Ht.o.svn (by have:=Hz.o;have:=Hr.o;have:=Hc.o;omega)) Hi.o);replace O:=Za (O.o.oth (by have:=Hz.o;omega) HC);replace Ho:=Za (HC.blk (by have:=Hz.o;have:=Hr.o;omega) Ho.o);clear HC hG HWD HV6 HT;generalize v7.setCells QS 0 (stL U).toArray.toList=v8 at *;have L:=(X.o.f.cell (j:=0) rfl).1;have hI:=fun u (h:Bw v8 u)=>ZR C G J l n q s U R (by omega) (by omega) HT'.o HE.o HG.o Hv.o u (Hi.o.lq h) (HR.o u (Zc X.o.b h));generalize hJ:rpF (A7 C l n q s)=A at *;have HRN:=Za hJ;clear hJ
           go_upto_region 31 with(first
            |(refine Lm 41 (.tmp 2) rfl QC 0 (crL C) X.o.c.range underlying41 Zr ?_)
            |(refine Lm 110 (.tmp 5) rfl QS 0 (stL U) X.o.s.range underlying110 (Mw U) ?_)
            |(refine Lm 75 (.tmp 6) rfl QR 0 (rpL R) X.o.r.range underlying75 Xn ?_)
            |(refine EM 70 _ rfl ?_;refine wpList_load_mid rfl 70 (.tmp 9) rfl QX 0 rfl (A6 s) _ Ho.o.range underlying70 rfl Wf ?_)
            |(go_at_call 51;refine Sb (hI _ (Below.refl _ _)) fun v9 Z=>?_;replace X:=Za (X.o.lq Z);replace O:=Za (O.o.lq Z);replace Hi:=Za (Hi.o.lq Z);clear Z L Ho)
            |(refine Sq 75 _ _ rfl ?_;refine wpList_store_mid rfl 75 (.tmp 6) (.tmp 145) rfl QR 0 (rpL A).toArray rfl rfl (X.o.r.there (Nat.le_of_ble_eq_true rfl)) Xn (Zm _ rfl) ?_))
           have HJ:Oth v9 (v9.setCells QR 0 (rpL A).toArray.toList) QR:=Oth.setCells _ 0 v9 (Oth.refl v9 QR);replace X:=Za (X.o.setR A);replace Hi:=Za (HJ.svl (Ht.o.svn (by have:=Hr.o;have:=Hc.o;omega)) Hi.o);replace O:=Za (O.o.oth (Nat.lt_succ_self QR) HJ);clear HJ hI;generalize v9.setCells QR 0 (rpL A).toArray.toList=v10 at *;have HL:Hd (QR+1<=v10.heap.size):=Za X.o.r.lt;have F:=Za (Ji7 v10 A);have hX:=U3 A;have Y:=Zb v10 (.cells (rpL A).toArray 75);have HM:=Za (X.o.lq Y);have HN:=Za (Hi.o.lq Y);have HO:=Za (O.o.lq Y);replace HL:=Za (Nat.le_trans HL.o Y.size);clear Y
           go_wp2_with (first
            |(refine Lm 75 (.tmp 6) rfl QR 0 (rpL A) X.o.r.range underlying75 Xn ?_)
            |(at_builtin;rw[Jca];refine L0 (.tmp 146) (.tmp 148) rfl rfl HO.o HL.o F.o HRL.o (fun s' v11 h1 h2=>?_);replace HO:=Za h1;replace HM:=Za (HM.o.grew h2 (fun g e=>(H1.o g e).1));replace HN:=Za (HN.o.grew h2 (fun g e=>Ht.o.svn (by have:=(H1.o g e).2;have:=Hc.o;omega)));clear h1 h2))
           go_roundw
           case rel=>exact⟨n+1,U,A,by omega,by go_num,by rw[Hu.o];exact HT'.o,by rw[Hu.o];exact HN.o,⟨Ht.o.svn (by have:=Hz.o;have:=Hr.o;have:=Hc.o;omega),Ht.o.svn (by have:=Hr.o;have:=Hc.o;omega)⟩,fun i _=>by rw[Hu.o,<-HRN.o];exact⟨rfl,fun _ _=>rfl⟩,HM.o,by rw[H0.o];exact HO.o⟩
           case measure=>simp[intOf];omega
  . obtain rfl:n=H.length:=by omega
    have Hw:=Za hj;have HBW:=Za ha.b;have HQW:Hd (w.heap.size<=QR+1):=Za (by have:=ha.n;omega);have L:=(ha.f.cell (j:=1) rfl).1;clear hT hV hu ho ha hj;go_wp2_with fail;go_ret;exact⟨⟨_,rfl,Hw.o.weak HQW.o⟩,HBW.o⟩
end Go.Proofs.YtnepnnkdgejheaaGreatDoor
