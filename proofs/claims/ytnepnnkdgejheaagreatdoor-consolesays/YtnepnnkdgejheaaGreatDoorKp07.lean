import Derived.OrdersHeld
import Derived.Test.YtnepnnkdgejheaaGreatDoorKp06
set_option maxRecDepth 100000
set_option maxHeartbeats 20000000
namespace Go.Proofs.YtnepnnkdgejheaaGreatDoor
open Go.RowKit Plain Tryz
variable {A B D H L M U W k n p q v:Int}{Q R ca cz i j la lz:Nat}{c x:Value}{u u' w w':V6}
def stB(L H M A D W:Int):Bool:=A1 A L H&&A1 D (-M) M&&A1 W 0 3
def asB(M k n q:Int):Bool:=A1 k (-100) 100&&A1 n 0 3&&A1 q (-M) M
theorem Nl(h:stB L H M A D W=true):(L<=A/\A<=H)/\(-M<=D/\D<=M)/\0<=W/\W<=3:=by
 simp only[stB,Bool.and_eq_true] at h;exact⟨Zw h.1.1,Zw h.1.2,Zw h.2⟩
theorem E9(h:asB M k n q=true):(-100<=k/\k<=100)/\(0<=n/\n<=3)/\-M<=q/\q<=M:=by
 simp only[asB,Bool.and_eq_true] at h;exact⟨Zw h.1.1,Zw h.1.2,Zw h.2⟩
def hoE(L H U B M:Int)(al zl:V9)(A D W k n q:Int):Int:=if ruE L H U B M al zl=0 then(if stB L H M A D W then(if asB M k n q then 0 else 1) else 3) else ruE L H U B M al zl
theorem Wz{al zl:V9}(h:hoE L H U B M al zl A D W k n q=0):ruE L H U B M al zl=0/\stB L H M A D W=true/\asB M k n q=true:=by
 unfold hoE at h
 split at h
 . rename_i h0
   split at h
   . rename_i h1
     split at h
     . rename_i h2;exact⟨h0,h1,h2⟩
     . cases h
   . cases h
 . rename_i h0;exact absurd h h0
theorem C7{a z:V8}{al zl:V9}(y:Bw u u')(h:(V0 u w 0 L/\V0 u w 1 H/\V0 u w 2 U/\V0 u w 3 B/\V0 u w 4 M/\V1 u w 5 (.slice a al.length ca)/\V1 u w 6 (.slice z zl.length cz))/\(V3 u w 0 A/\V3 u w 1 D/\V3 u w 2 W)/\(V4 u w 0 k/\V4 u w 1 p/\V4 u w 2 v/\V4 u w 3 n/\V4 u w 4 q)/\Lst u a al/\Lst u z zl/\Bw w u):(V0 u' w 0 L/\V0 u' w 1 H/\V0 u' w 2 U/\V0 u' w 3 B/\V0 u' w 4 M/\V1 u' w 5 (.slice a al.length ca)/\V1 u' w 6 (.slice z zl.length cz))/\(V3 u' w 0 A/\V3 u' w 1 D/\V3 u' w 2 W)/\(V4 u' w 0 k/\V4 u' w 1 p/\V4 u' w 2 v/\V4 u' w 3 n/\V4 u' w 4 q)/\Lst u' a al/\Lst u' z zl/\Bw w u':=by
 obtain⟨⟨h0,h1,h2,h3,h4,h5,h6⟩,⟨j,m,e⟩,⟨r0,r1,r2,r3,r4⟩,Z,Y,X⟩:=h;exact⟨⟨cell_later y h0,cell_later y h1,cell_later y h2,cell_later y h3,cell_later y h4,cell_later y h5,cell_later y h6⟩,⟨cell_later y j,cell_later y m,cell_later y e⟩,⟨cell_later y r0,cell_later y r1,cell_later y r2,cell_later y r3,cell_later y r4⟩,Z.lq y,Y.lq y,Zc X y⟩
theorem Jrj(L H U B M:Int)(a z:V8)(h y:Nat)(al zl:V9)(A D W k p v n q:Int)(w:V6)(ha:Lst w a al)(j:Lst w z zl):(fun u=>(V0 u w 0 L/\V0 u w 1 H/\V0 u w 2 U/\V0 u w 3 B/\V0 u w 4 M/\V1 u w 5 (.slice a al.length h)/\V1 u w 6 (.slice z zl.length y))/\(V3 u w 0 A/\V3 u w 1 D/\V3 u w 2 W)/\(V4 u w 0 k/\V4 u w 1 p/\V4 u w 2 v/\V4 u w 3 n/\V4 u w 4 q)/\Lst u a al/\Lst u z zl/\Bw w u) (((w.alloc (.cells (Qas L H U B M a z al zl h y) 224)).alloc (.cells #[Vi A,Vi D,Vi W] 107)).alloc (.cells #[Vi k,Vi p,Vi v,Vi n,Vi q] 238)):=by
 refine⟨?_,?_,?_,((ha.lq Vc).lq Vc).lq Vc,((j.lq Vc).lq Vc).lq Vc,Zc (Zc Vc Vc) Vc⟩
 . refine⟨?_,?_,?_,?_,?_,?_,?_⟩<;>simp[go_sem]
 . refine⟨?_,?_,?_⟩<;>simp[go_sem]
 . refine⟨?_,?_,?_,?_,?_⟩<;>simp[go_sem]
theorem Jd6(x lo hi:Int)(w:V6):
 Va 98 #[Vi x,.agg #[Vi lo,Vi hi]] w (Rt w (.bool (A1 x lo hi))):=
 (RD x lo hi w).mono fun e w' h=>⟨h.1,by rw[h.2];exact Zb _ _⟩
theorem Eg(L H U B M:Int)(a z:V8)(T J:Nat)(al zl:V9)(A D W k p v n q:Int)(N:al.length<=9223372036854775807)(hn:zl.length<=9223372036854775807)(hd:al.length<=T)(w:V6)(ha:Lst w a al)(K:Lst w z zl):
 Va 319 #[.agg (Qas L H U B M a z al zl T J),.agg #[Vi A,Vi D,Vi W],.agg #[Vi k,Vi p,Vi v,Vi n,Vi q]] w (Rt w (A8 (hoE L H U B M al zl A D W k n q))):=by
 have hc:=fun u (h1:Lst u a al) (h2:Lst u z zl)=>Zka L H U B M a z T J al zl N hn hd u h1 h2;have h:=Za (Jrj L H U B M a z T J al zl A D W k p v n q w ha K)
 dsimp only at h
 clear ha K
 by_cases h0:ruE L H U B M al zl=0
 . obtain⟨_,_,_,_,m0,m1⟩:=Wk (Wl h0).1;have R:=Za (show hoE L H U B M al zl A D W k n q=if stB L H M A D W then(if asB M k n q then 0 else 1) else 3 by unfold hoE;rw[if_pos h0]);simp only[h0,Z0] at hc;have P:=Jd6 A L H;have C:=Yy D (-M) M;have f3:=Nw W;have F:=Yy k (-100) 100;have I:=Nw n;have O:=Yy q (-M) M
   unfold stB asB at R
   generalize hoE L H U B M al zl A D W k n q=E at *;clear h0;generalize A1 A L H=x1 at *;generalize A1 D (-M) M=x2 at *;generalize A1 W 0 3=x3 at *;generalize A1 k (-100) 100=y1 at *;generalize A1 n 0 3=y2 at *;generalize A1 q (-M) M=y3 at*
   rcases(show(E=3/\(x1=false\/(x1=true/\x2=false)\/(x1=true/\x2=true/\x3=false)))\/(E=1/\x1=true/\x2=true/\x3=true/\(y1=false\/(y1=true/\y2=false)\/(y1=true/\y2=true/\y3=false)))\/(E=0/\x1=true/\x2=true/\x3=true/\y1=true/\y2=true/\y3=true) by
    have:=R.o;cases x1<;>cases x2<;>cases x3<;>cases y1<;>cases y2<;>cases y3<;>simp_all) with
    ⟨rfl,(rfl|⟨rfl,rfl⟩|⟨rfl,rfl,rfl⟩)⟩|⟨rfl,rfl,rfl,rfl,(rfl|⟨rfl,rfl⟩|⟨rfl,rfl,rfl⟩)⟩|⟨rfl,rfl,rfl,rfl,rfl,rfl,rfl⟩
   all_goals
    clear R
    go_enter func319,ntmps319
    go_wp2_with (first
     |(go_at_call 155;refine Sb (hc _ h.o.2.2.2.1 h.o.2.2.2.2.1) fun w1 y=>?_;have h:=Za (C7 y h.o);obtain⟨⟨q0,j,m,e,q4,Z,Y⟩,⟨X,Q,G⟩,⟨r0,r1,r2,r3,r4⟩,_⟩:=h.o;clear y)
     |(go_at_call 98;refine Sb (P _) fun w2 y=>?_;have h:=Za (C7 y h.o);obtain⟨⟨q0,j,m,e,q4,Z,Y⟩,⟨X,Q,G⟩,⟨r0,r1,r2,r3,r4⟩,_⟩:=h.o;clear y)
     |(go_at_call_of 55 D;refine Sb (C _) fun w3 y=>?_;have h:=Za (C7 y h.o);obtain⟨⟨q0,j,m,e,q4,Z,Y⟩,⟨X,Q,G⟩,⟨r0,r1,r2,r3,r4⟩,_⟩:=h.o;clear y)
     |(go_at_call_of 288 W;refine Sb (f3 _) fun w4 y=>?_;have h:=Za (C7 y h.o);obtain⟨⟨q0,j,m,e,q4,Z,Y⟩,⟨X,Q,G⟩,⟨r0,r1,r2,r3,r4⟩,_⟩:=h.o;clear y)
     |(go_at_call_of 55 k;refine Sb (F _) fun w5 y=>?_;have h:=Za (C7 y h.o);obtain⟨⟨q0,j,m,e,q4,Z,Y⟩,⟨X,Q,G⟩,⟨r0,r1,r2,r3,r4⟩,_⟩:=h.o;clear y)
     |(go_at_call_of 288 n;refine Sb (I _) fun w6 y=>?_;have h:=Za (C7 y h.o);obtain⟨⟨q0,j,m,e,q4,Z,Y⟩,⟨X,Q,G⟩,⟨r0,r1,r2,r3,r4⟩,_⟩:=h.o;clear y)
     |(go_at_call_of 55 q;refine Sb (O _) fun w7 y=>?_;have h:=Za (C7 y h.o);obtain⟨⟨q0,j,m,e,q4,Z,Y⟩,⟨X,Q,G⟩,⟨r0,r1,r2,r3,r4⟩,_⟩:=h.o;clear y))
    go_ret;exact⟨rfl,h.o.2.2.2.2.2⟩
 . have R:=Za (show hoE L H U B M al zl A D W k n q=ruE L H U B M al zl by unfold hoE;rw[if_neg h0]);rw[R.o];simp only[Zv h0] at hc|-;clear h0 R;generalize ruE L H U B M al zl=E at*
   go_enter func319,ntmps319
   go_wp2_with (first
    |(go_at_call 155;refine Sb (hc _ h.o.2.2.2.1 h.o.2.2.2.2.1) fun w1 y=>?_;have h:=Za (C7 y h.o);obtain⟨⟨q0,j,m,e,q4,Z,Y⟩,⟨X,Q,G⟩,⟨r0,r1,r2,r3,r4⟩,_⟩:=h.o;clear y))
   go_ret;exact⟨rfl,h.o.2.2.2.2.2⟩
def a1I(L H A W p n:Int):Int:=if n=W then A else Ze p L H
def a2I(L H U A W k p n:Int):Int:=Ze (a1I L H A W p n+CX k U) L H
def ppI(L H U:Int)(al zl:V9)(A W k p v n:Int):Int:=Y8 (Y7 al zl v) (a2I L H U A W k p n) p
def d2I(L H U M:Int)(al zl:V9)(A D W k p v n q:Int):Int:=if n=W then D else Ze (q-ppI L H U al zl A W k p v n) (-M) M
def wtI(L H U M:Int)(al zl:V9)(A D W k p v n q:Int):Int:=Ze (ppI L H U al zl A W k p v n+d2I L H U M al zl A D W k p v n q) (-M) M
def wX(L H U M:Int)(al zl:V9)(A D W k p v n q:Int):Int:=if n<=1 then wtI L H U M al zl A D W k p v n q else if n=2 then CX k M else 0
def wA(L H U A W k p n:Int):Int:=if n<=1 then a2I L H U A W k p n else A
def wD(L H U M:Int)(al zl:V9)(A D W k p v n q:Int):Int:=if n<=1 then d2I L H U M al zl A D W k p v n q else D
def toD(B M A D p n want got:Int):Int:=if n=0/\got=want then Ze (D+Y8 B A p) (-M) M else D
theorem KA{a z:V8}{al zl:V9}(h:Ym al zl=0)(ha:Lst u a al)(Z:Lst u z zl):∃y j m e,a=some (Ad y j)/\z=some (Ad m e)/\CK u y j m e al zl:=by
 obtain⟨hl,p,_⟩:=I8 h;have Q:=p.lo;obtain⟨y,j,Y,h1⟩:=ha.at (Ug (k:=0) (by omega));obtain⟨m,e,X,h2⟩:=Z.at (Ug (k:=0) (by omega));exact⟨y,j,m,e,Y,X,h,h1,h2⟩
theorem PA{X G:Prop}(h:X->G)(x:X):G:=h x
def HW(w u:V6)(L H U B M:Int)(a z:V8)(la lz ca cz:Nat)(A D W k p v n q:Int):Prop:=(V0 u w 0 L/\V0 u w 1 H/\V0 u w 2 U/\V0 u w 3 B/\V0 u w 4 M/\V1 u w 5 (.slice a la ca)/\V1 u w 6 (.slice z lz cz))/\(V3 u w 0 A/\V3 u w 1 D/\V3 u w 2 W)/\(V4 u w 0 k/\V4 u w 1 p/\V4 u w 2 v/\V4 u w 3 n/\V4 u w 4 q)/\(V2 u (w.heap.size+1+1+1) 0 0/\V2 u (w.heap.size+1+1+1) 1 0/\V2 u (w.heap.size+1+1+1) 2 0)/\(u.frozen? (Ad (w.heap.size+1) 0)=false/\u.frozen? (Ad (w.heap.size+1) 1)=false/\u.frozen? (Ad (w.heap.size+1) 2)=false)/\(u.frozen? (Ad (w.heap.size+1+1+1) 0)=false/\u.frozen? (Ad (w.heap.size+1+1+1) 1)=false/\u.frozen? (Ad (w.heap.size+1+1+1) 2)=false)/\Bw w u
theorem Yw(y:Bw w w')(h:Kc w Q j x)(k:w.frozen? (Ad Q j)=false):w'.frozen? (Ad Q j)=false:=
 (y.frozen (p:=⟨Q,j,none⟩) (World.block_lt_of_cell? w _ h)).trans k
theorem Zl(y:Bw w w')(h:Kc w Q j x):Kc w' Q j x:=cell_later y h
section
variable {w u u' : World} {L H U B M : Int} {a z : Option Addr} {la lz ca cz : Nat} {A D W k p v n q : Int}
theorem HW.lq(h:HW w u L H U B M a z la lz ca cz A D W k p v n q)(y:Bw u u'):HW w u' L H U B M a z la lz ca cz A D W k p v n q:=by
 obtain⟨⟨q0,Q,G,R,q4,T,J⟩,⟨j,m,e⟩,⟨r0,r1,r2,r3,r4⟩,⟨Z,Y,X⟩,⟨g0,K,N⟩,⟨P,C,E⟩,F⟩:=h;exact⟨⟨Zl y q0,Zl y Q,Zl y G,Zl y R,Zl y q4,Zl y T,Zl y J⟩,⟨Zl y j,Zl y m,Zl y e⟩,⟨Zl y r0,Zl y r1,Zl y r2,Zl y r3,Zl y r4⟩,⟨Zl y Z,Zl y Y,Zl y X⟩,⟨Yw y j g0,Yw y m K,Yw y e N⟩,⟨Yw y Z P,Yw y Y C,Yw y X E⟩,Zc F y⟩
theorem Zj(y:Q≠R)(h:Kc u R i c):(u.setCell (Ad Q j) x).cell? (Ad R i)=some c:=by
 rw[World.cell?_setCell_other _ _ _ _ (fun e=>y (congrArg Addr.block e))];exact h
theorem Ul(h:Kc u Q i c)(y:j≠i:=by decide):(u.setCell (Ad Q j) x).cell? (Ad Q i)=some c:=by
 rw[World.cell?_setCell_other _ _ _ _ (fun e=>y (congrArg Addr.off e))];exact h
theorem FJ(h:Kc u Q i c):(u.setCell (Ad Q i) x).cell? (Ad Q i)=some x:=by simp[go_sem,h]
theorem Xg{Q:Addr}(h:u.frozen? (Ad R i)=false):(u.setCell Q x).frozen? (Ad R i)=false:=by simpa[go_sem] using h
theorem HW.setA(h:HW w u L H U B M a z la lz ca cz A D W k p v n q)(x:Int):HW w (u.setCell (Ad (w.heap.size+1) 0) (Vi x)) L H U B M a z la lz ca cz x D W k p v n q:=by
 obtain⟨⟨q0,m,e,Z,q4,Y,X⟩,⟨Q,G,R⟩,⟨r0,r1,r2,r3,r4⟩,⟨T,J,K⟩,⟨g0,N,P⟩,⟨C,E,F⟩,I⟩:=h
 have n0:w.heap.size+1≠w.heap.size:=by omega
 have y:w.heap.size+1≠w.heap.size+1+1:=by omega
 have j:w.heap.size+1≠w.heap.size+1+1+1:=by omega
 exact⟨⟨Zj n0 q0,Zj n0 m,Zj n0 e,Zj n0 Z,Zj n0 q4,Zj n0 Y,Zj n0 X⟩,⟨FJ Q,Ul G,Ul R⟩,⟨Zj y r0,Zj y r1,Zj y r2,Zj y r3,Zj y r4⟩,⟨Zj j T,Zj j J,Zj j K⟩,⟨Xg g0,Xg N,Xg P⟩,⟨Xg C,Xg E,Xg F⟩,I.setCell (by simp) _⟩
theorem HW.setD(h:HW w u L H U B M a z la lz ca cz A D W k p v n q)(x:Int):HW w (u.setCell (Ad (w.heap.size+1) 1) (Vi x)) L H U B M a z la lz ca cz A x W k p v n q:=by
 obtain⟨⟨q0,m,e,Z,q4,Y,X⟩,⟨Q,G,R⟩,⟨r0,r1,r2,r3,r4⟩,⟨T,J,K⟩,⟨g0,N,P⟩,⟨C,E,F⟩,I⟩:=h
 have n0:w.heap.size+1≠w.heap.size:=by omega
 have y:w.heap.size+1≠w.heap.size+1+1:=by omega
 have j:w.heap.size+1≠w.heap.size+1+1+1:=by omega
 exact⟨⟨Zj n0 q0,Zj n0 m,Zj n0 e,Zj n0 Z,Zj n0 q4,Zj n0 Y,Zj n0 X⟩,⟨Ul Q,FJ G,Ul R⟩,⟨Zj y r0,Zj y r1,Zj y r2,Zj y r3,Zj y r4⟩,⟨Zj j T,Zj j J,Zj j K⟩,⟨Xg g0,Xg N,Xg P⟩,⟨Xg C,Xg E,Xg F⟩,I.setCell (by simp) _⟩
theorem HW.setW(h:HW w u L H U B M a z la lz ca cz A D W k p v n q)(x:Int):HW w (u.setCell (Ad (w.heap.size+1) 2) (Vi x)) L H U B M a z la lz ca cz A D x k p v n q:=by
 obtain⟨⟨q0,m,e,Z,q4,Y,X⟩,⟨Q,G,R⟩,⟨r0,r1,r2,r3,r4⟩,⟨T,J,K⟩,⟨g0,N,P⟩,⟨C,E,F⟩,I⟩:=h
 have n0:w.heap.size+1≠w.heap.size:=by omega
 have y:w.heap.size+1≠w.heap.size+1+1:=by omega
 have j:w.heap.size+1≠w.heap.size+1+1+1:=by omega
 exact⟨⟨Zj n0 q0,Zj n0 m,Zj n0 e,Zj n0 Z,Zj n0 q4,Zj n0 Y,Zj n0 X⟩,⟨Ul Q,Ul G,FJ R⟩,⟨Zj y r0,Zj y r1,Zj y r2,Zj y r3,Zj y r4⟩,⟨Zj j T,Zj j J,Zj j K⟩,⟨Xg g0,Xg N,Xg P⟩,⟨Xg C,Xg E,Xg F⟩,I.setCell (by simp) _⟩
theorem HW.new(w:V6)(L H U B M:Int)(a z:V8)(la lz ca cz:Nat)(A D W k p v n q:Int):HW w ((((w.alloc (.cells #[Vi L,Vi H,Vi U,Vi B,Vi M,.slice a la ca,.slice z lz cz] 224)).alloc (.cells #[Vi A,Vi D,Vi W] 107)).alloc (.cells #[Vi k,Vi p,Vi v,Vi n,Vi q] 238)).alloc (.cells #[Vi 0,Vi 0,Vi 0] 107)) L H U B M a z la lz ca cz A D W k p v n q:=by
 refine⟨?_,?_,?_,?_,?_,?_,Zc (Zc (Zc Vc Vc) Vc) Vc⟩
 . refine⟨?_,?_,?_,?_,?_,?_,?_⟩<;>simp[go_sem]
 . refine⟨?_,?_,?_⟩<;>simp[go_sem]
 . refine⟨?_,?_,?_,?_,?_⟩<;>simp[go_sem]
 . refine⟨?_,?_,?_⟩<;>simp[go_sem]
 . refine⟨?_,?_,?_⟩<;>simp[go_sem]
 . refine⟨?_,?_,?_⟩<;>simp[go_sem]
end
theorem Xh(y:Bw u u')(h:(V0 u w 0 L/\V0 u w 1 H/\V0 u w 2 U/\V4 u w 0 k)/\Bw w u):(V0 u' w 0 L/\V0 u' w 1 H/\V0 u' w 2 U/\V4 u' w 0 k)/\Bw w u':=
 ⟨⟨Zl y h.1.1,Zl y h.1.2.1,Zl y h.1.2.2.1,Zl y h.1.2.2.2⟩,Zc h.2 y⟩
theorem IJ(h:(V0 u w 0 L/\V0 u w 1 H/\V0 u w 2 U/\V4 u w 0 k)/\Bw w u):((u.setCell (Ad (w.heap.size+1) j) x).cell? (Ad w.heap.size 0)=some (Vi L)/\(u.setCell (Ad (w.heap.size+1) j) x).cell? (Ad w.heap.size 1)=some (Vi H)/\(u.setCell (Ad (w.heap.size+1) j) x).cell? (Ad w.heap.size 2)=some (Vi U)/\(u.setCell (Ad (w.heap.size+1) j) x).cell? (Ad (w.heap.size+1+1) 0)=some (Vi k))/\Bw w (u.setCell (Ad (w.heap.size+1) j) x):=
 ⟨⟨Zj (by omega) h.1.1,Zj (by omega) h.1.2.1,Zj (by omega) h.1.2.2.1,Zj (by omega) h.1.2.2.2⟩,h.2.setCell (by simp) _⟩
theorem PC{a z:V8}(y:Bw u u')(h:(V0 u w 0 L/\V0 u w 1 H/\V0 u w 2 U/\V0 u w 3 B/\V0 u w 4 M/\V1 u w 5 (.slice a la ca)/\V1 u w 6 (.slice z lz cz))/\(V3 u w 0 A/\V3 u w 1 D/\V3 u w 2 W)/\Bw w u):(V0 u' w 0 L/\V0 u' w 1 H/\V0 u' w 2 U/\V0 u' w 3 B/\V0 u' w 4 M/\V1 u' w 5 (.slice a la ca)/\V1 u' w 6 (.slice z lz cz))/\(V3 u' w 0 A/\V3 u' w 1 D/\V3 u' w 2 W)/\Bw w u':=
 ⟨⟨Zl y h.1.1,Zl y h.1.2.1,Zl y h.1.2.2.1,Zl y h.1.2.2.2.1,Zl y h.1.2.2.2.2.1,Zl y h.1.2.2.2.2.2.1,Zl y h.1.2.2.2.2.2.2⟩,⟨Zl y h.2.1.1,Zl y h.2.1.2.1,Zl y h.2.1.2.2⟩,Zc h.2.2 y⟩
theorem Jbg{a z:V8}(h:(V0 u w 0 L/\V0 u w 1 H/\V0 u w 2 U/\V0 u w 3 B/\V0 u w 4 M/\V1 u w 5 (.slice a la ca)/\V1 u w 6 (.slice z lz cz))/\(V3 u w 0 A/\V3 u w 1 D/\V3 u w 2 W)/\Bw w u):((u.setCell (Ad (w.heap.size+1+1+1) j) x).cell? (Ad w.heap.size 0)=some (Vi L)/\(u.setCell (Ad (w.heap.size+1+1+1) j) x).cell? (Ad w.heap.size 1)=some (Vi H)/\(u.setCell (Ad (w.heap.size+1+1+1) j) x).cell? (Ad w.heap.size 2)=some (Vi U)/\(u.setCell (Ad (w.heap.size+1+1+1) j) x).cell? (Ad w.heap.size 3)=some (Vi B)/\(u.setCell (Ad (w.heap.size+1+1+1) j) x).cell? (Ad w.heap.size 4)=some (Vi M)/\(u.setCell (Ad (w.heap.size+1+1+1) j) x).cell? (Ad w.heap.size 5)=some (.slice a la ca)/\(u.setCell (Ad (w.heap.size+1+1+1) j) x).cell? (Ad w.heap.size 6)=some (.slice z lz cz))/\((u.setCell (Ad (w.heap.size+1+1+1) j) x).cell? (Ad (w.heap.size+1) 0)=some (Vi A)/\(u.setCell (Ad (w.heap.size+1+1+1) j) x).cell? (Ad (w.heap.size+1) 1)=some (Vi D)/\(u.setCell (Ad (w.heap.size+1+1+1) j) x).cell? (Ad (w.heap.size+1) 2)=some (Vi W))/\Bw w (u.setCell (Ad (w.heap.size+1+1+1) j) x):=by
 have n0:w.heap.size+1+1+1≠w.heap.size:=by omega
 have n1:w.heap.size+1+1+1≠w.heap.size+1:=by omega
 exact⟨⟨Zj n0 h.1.1,Zj n0 h.1.2.1,Zj n0 h.1.2.2.1,Zj n0 h.1.2.2.2.1,Zj n0 h.1.2.2.2.2.1,Zj n0 h.1.2.2.2.2.2.1,Zj n0 h.1.2.2.2.2.2.2⟩,⟨Zj n1 h.2.1.1,Zj n1 h.2.1.2.1,Zj n1 h.2.1.2.2⟩,h.2.2.setCell (by simp;omega) _⟩
theorem Jea{c0 c1 c2:Value}(h:Below u.drew.heap.size u.drew u')(y:Kc u Q 0 c0)(j:Kc u Q 1 c1)(m:Kc u Q 2 c2)(e:u.frozen? (Ad Q 0)=false)(w:u.frozen? (Ad Q 1)=false)(H:u.frozen? (Ad Q 2)=false):
 Kc u' Q 0 c0/\Kc u' Q 1 c1/\Kc u' Q 2 c2/\u'.frozen? (Ad Q 0)=false/\u'.frozen? (Ad Q 1)=false/\u'.frozen? (Ad Q 2)=false:=
 ⟨Zl h y,Zl h j,Zl h m,Yw h y e,Yw h j w,Yw h m H⟩
theorem Jht(L H U B M:Int)(a z:V8)(ca cz:Nat)(al zl:V9)(A D W k p v n q:Int)(hj:al.length<=ca)(h0:hoE L H U B M al zl A D W k n q=0)(w:V6)(ha:Lst w a al)(hz:Lst w z zl):
 Va 321 #[.agg (Qas L H U B M a z al zl ca cz),.agg #[Vi A,Vi D,Vi W],.agg #[Vi k,Vi p,Vi v,Vi n,Vi q]] w (Rt w (.tuple #[Vi (wtI L H U M al zl A D W k p v n q),.agg #[Vi (a2I L H U A W k p n),Vi (d2I L H U M al zl A D W k p v n q),Vi n],.nilIface])):=by
 obtain⟨e1,e2,e3⟩:=Wz h0;obtain⟨e4,e5,e6,_⟩:=Wl e1;obtain⟨⟨l0,l1⟩,⟨u0,u1⟩,⟨t0,t1⟩,⟨b0,b1⟩,m0,m1⟩:=Wk e4;obtain⟨⟨a0,a1⟩,⟨d0,d1⟩,_,_⟩:=Nl e2;obtain⟨⟨k0,k1⟩,_,q0',q1'⟩:=E9 e3;obtain⟨ba,oa,bz,oz,rfl,rfl,hl⟩:=KA e6 ha hz;have F:=Za (HW.new w L H U B M (some (Ad ba oa)) (some (Ad bz oz)) al.length zl.length ca cz A D W k p v n q);have he:=fun u (h:Bw w u)=>Jk7 ba oa ca bz oz cz al zl v u hj (hl.lq h);have hf:=G8 k U k0 k1 t0 (by omega);have hm:=Jak k0 k1 t0 (show U<=4000 by omega);clear h0 e1 e2 e3 e4 e6 ha hz hl
 unfold wtI d2I ppI a2I a1I
 generalize Y7 al zl v=g at *;generalize CX k U=hu at *;obtain⟨hs,ht⟩:=hm
 by_cases hW:n=W
 case' pos=>
  obtain⟨I,rfl⟩:∃I,I=A:=⟨_,rfl⟩;obtain⟨y,rfl⟩:∃y,y=D:=⟨_,rfl⟩;rw[if_pos hW,if_pos hW]
  have hg:(W != n)=false:=by simp[hW]
  clear hW;have hc:=Y1 (I+hu) L H;have x2b:=Xu (I+hu) e5;generalize Ze (I+hu) L H=O at *;have hd:=DM O p g (by omega) (by omega);have ppb:=Na g O p;generalize Y8 g O p=pp at *;obtain⟨pp0,pp1⟩:=ppb;have hh:=M6 L H U B M (some (Ad ba oa)) (some (Ad bz oz)) al.length zl.length ca cz (pp+y) m0 m1;generalize Ze (pp+y) (-M) M=wt at *;have v1:=Wr (I+hu);have v2:=Wr (pp+y)
  go_enter func321,ntmps321
  go_upto_region 8 with(go_at_call 343;refine Sb (he _ F.o.2.2.2.2.2.2) fun w1 m=>?_;have F:=Za (F.o.lq m);obtain⟨⟨q0,e,Y,Q,q4,G,R⟩,⟨T,J,N⟩,⟨r0,r1,r2,r3,r4⟩,⟨P,C,E⟩,⟨g0,g1,g2⟩,⟨f0,f1,f2⟩,j⟩:=F.o;clear j m);have Hb:=Za (F.o.setW n);clear F
 case' neg=>
  rw[if_neg hW,if_neg hW]
  have hg:(W != n)=true:=by simpa using fun h=>hW h.symm
  clear hW;have hn:=Y1 p L H;have x1b:=Xu p e5;generalize Ze p L H=I at *;have hc:=Y1 (I+hu) L H;have x2b:=Xu (I+hu) e5;generalize Ze (I+hu) L H=O at *;have hd:=DM O p g (by omega) (by omega);have ppb:=Na g O p;generalize Y8 g O p=pp at *;obtain⟨pp0,pp1⟩:=ppb;have ho:=M6 L H U B M (some (Ad ba oa)) (some (Ad bz oz)) al.length zl.length ca cz (q-pp) m0 m1;have yb:=Xu (q-pp) (lo:=-M) (hi:=M) (by omega);generalize Ze (q-pp) (-M) M=y at *;have hh:=M6 L H U B M (some (Ad ba oa)) (some (Ad bz oz)) al.length zl.length ca cz (pp+y) m0 m1;generalize Ze (pp+y) (-M) M=wt at *;have v1:=Wr (I+hu);have v2:=Wr (pp+y)
  go_enter func321,ntmps321
  go_upto_region 8 with(first
   |(go_at_call 343;refine Sb (he _ F.o.2.2.2.2.2.2) fun w1 m=>?_;have F:=Za (F.o.lq m);obtain⟨⟨q0,e,Y,Q,q4,G,R⟩,⟨T,J,N⟩,⟨r0,r1,r2,r3,r4⟩,⟨P,C,E⟩,⟨g0,g1,g2⟩,⟨f0,f1,f2⟩,j⟩:=F.o;clear j m)
   |(go_at_call 264;refine Sm (hn _) ?_))
  have Hb:=Za ((F.o.setW n).setA I);clear F
 all_goals
  generalize hp:World.setCell _ _ (Vi _)=w2 at *;clear hp;clear q0 e Y Q q4 G R T J N r0 r1 r2 r3 r4 P C E g0 g1 g2 f0 f1 f2;obtain⟨⟨q0,e,Y,Q,q4,G,R⟩,⟨T,J,N⟩,⟨r0,r1,r2,r3,r4⟩,⟨P,C,E⟩,⟨g0,g1,g2⟩,⟨f0,f1,f2⟩,j⟩:=Hb.o;have Z:=Za (show(V0 w2 w 0 L/\V0 w2 w 1 H/\V0 w2 w 2 U/\V4 w2 w 0 k)/\Bw w w2 from⟨⟨q0,e,Y,r0⟩,j⟩);clear j;apply PA
  . intro hk;refine wp_region_held_drew (S:=fun u=>(V0 u w 0 L/\V0 u w 1 H/\V0 u w 2 U/\V4 u w 0 k)/\Bw w u) (by kernel_rfl) (Xh Vb Z.o) (fun hHeld=>?_);refine Tp 0 ?_;(try simp only[Act.put]);refine Tp 2 ?_;(try simp only[Act.put]);refine Tp 3 ?_;(try simp only[Act.put]);refine Tp 4 ?_;(try simp only[Act.put]);refine Tp 5 ?_;(try simp only[Act.put]);refine Tp 8 ?_;(try simp only[Act.put]);refine Tp 9 ?_;(try simp only[Act.put]);refine Tp 10 ?_;(try simp only[Act.put]);refine Tp 11 ?_;(try simp only[Act.put]);refine Tp 12 ?_;(try simp only[Act.put]);refine Tp 13 ?_;(try simp only[Act.put]);refine Rb 1 6 (fun K hK=>?_) (fun K hK=>?_)
    . go_simp;refine hK.out _ _ (Xh Vb Z.o) (fun hHeld=>?_);clear hK K;refine Ra 6 (fun K hK=>?_);go_simp;refine Sm (hf _) ?_;go_wp2_with fail;refine hK.out _ _ (Xh Vb Z.o) (fun hHeld=>?_);clear hK K;refine Tp 7 ?_;(try simp only[Act.put]);refine Ra 14 (fun K hK=>?_);go_simp;refine Sm (hc _) ?_;go_wp2_with fail;refine hK.out _ _ (Xh Vb Z.o) (fun hHeld=>?_);clear hK K;refine Tp 15 ?_;(try simp only[Act.put]);refine Ra 16 (fun K hK=>?_);go_simp;refine hK.out _ _ (IJ (Xh Vb Z.o)) (fun hHeld=>?_);clear hK K;refine Dn ?_;exact hk
    . go_simp;refine Sm (hf _) ?_;go_wp2_with fail;refine hK.out _ _ (Xh Vb Z.o) (fun hHeld=>?_);clear hK K;refine Ra 1 (fun K hK=>?_);go_simp;refine hK.out _ _ (Xh Vb Z.o) (fun hHeld=>?_);clear hK K;refine Tp 7 ?_;(try simp only[Act.put]);refine Ra 14 (fun K hK=>?_);go_simp;refine Sm (hc _) ?_;go_wp2_with fail;refine hK.out _ _ (Xh Vb Z.o) (fun hHeld=>?_);clear hK K;refine Tp 15 ?_;(try simp only[Act.put]);refine Ra 16 (fun K hK=>?_);go_simp;refine hK.out _ _ (IJ (Xh Vb Z.o)) (fun hHeld=>?_);clear hK K;refine Dn ?_;exact hk
  have X:=Za ((Hb.o.setA O).lq Vb);clear Hb Z;generalize hq:World.drew (World.setCell _ _ (Vi O))=w3 at *;clear hq;clear q0 e Y Q q4 G R T J N r0 r1 r2 r3 r4 P C E g0 g1 g2 f0 f1 f2;obtain⟨⟨q0,e,Y,Q,q4,G,R⟩,⟨T,J,N⟩,⟨r0,r1,r2,r3,r4⟩,⟨P,C,E⟩,⟨g0,g1,g2⟩,⟨f0,f1,f2⟩,j⟩:=X.o;clear j
  first
   |(have hz:(W != n)=false:=hg;clear hz;go_upto_region 12 with(first|(go_at_call 329;refine Sb (hd _) fun w6 m=>?_;have X:=Za (X.o.lq m);obtain⟨⟨q0,e,Y,Q,q4,G,R⟩,⟨T,J,N⟩,⟨r0,r1,r2,r3,r4⟩,⟨P,C,E⟩,⟨g0,g1,g2⟩,⟨f0,f1,f2⟩,j⟩:=X.o;clear j m));have Hc:=X;clear X;obtain⟨⟨q0,e,Y,Q,q4,G,R⟩,⟨T,J,N⟩,⟨r0,r1,r2,r3,r4⟩,⟨P,C,E⟩,⟨g0,g1,g2⟩,⟨f0,f1,f2⟩,j⟩:=Hc.o)
   |(go_upto_region 12 with(first|(go_at_call 329;refine Sb (hd _) fun w4 m=>?_;have X:=Za (X.o.lq m);obtain⟨⟨q0,e,Y,Q,q4,G,R⟩,⟨T,J,N⟩,⟨r0,r1,r2,r3,r4⟩,⟨P,C,E⟩,⟨g0,g1,g2⟩,⟨f0,f1,f2⟩,j⟩:=X.o;clear j m)|(go_at_call 328;refine Sb (ho _) fun w5 m=>?_;have X:=Za (X.o.lq m);obtain⟨⟨q0,e,Y,Q,q4,G,R⟩,⟨T,J,N⟩,⟨r0,r1,r2,r3,r4⟩,⟨P,C,E⟩,⟨g0,g1,g2⟩,⟨f0,f1,f2⟩,j⟩:=X.o;clear j m));have Hc:=Za (X.o.setD y);clear X;generalize hr:World.setCell _ _ (Vi y)=w6 at *;clear hr;clear q0 e Y Q q4 G R T J N r0 r1 r2 r3 r4 P C E g0 g1 g2 f0 f1 f2;obtain⟨⟨q0,e,Y,Q,q4,G,R⟩,⟨T,J,N⟩,⟨r0,r1,r2,r3,r4⟩,⟨P,C,E⟩,⟨g0,g1,g2⟩,⟨f0,f1,f2⟩,j⟩:=Hc.o)
  have Z:=Za (show(V0 w6 w 0 L/\V0 w6 w 1 H/\V0 w6 w 2 U/\V0 w6 w 3 B/\V0 w6 w 4 M/\V1 w6 w 5 (Vf ba oa al.length ca)/\V1 w6 w 6 (Vf bz oz zl.length cz))/\(V3 w6 w 0 O/\V3 w6 w 1 y/\V3 w6 w 2 n)/\Bw w w6 from⟨⟨q0,e,Y,Q,q4,G,R⟩,⟨T,J,N⟩,j⟩);clear j q0 e Y Q q4 G R T J N r0 r1 r2 r3 r4 g0 g1 g2
  go_region_held3 (fun u=>(V0 u w 0 L/\V0 u w 1 H/\V0 u w 2 U/\V0 u w 3 B/\V0 u w 4 M/\V1 u w 5 (Vf ba oa al.length ca)/\V1 u w 6 (Vf bz oz zl.length cz))/\(V3 u w 0 O/\V3 u w 1 y/\V3 u w 2 n)/\Bw w u)
   (first
    |(with_reducible assumption)
    |(with_reducible apply PC;with_reducible assumption;with_reducible assumption)
    |((repeat (with_reducible first|exact Z.o|assumption|refine PC Vb ?_|refine Jbg ?_));done))
   (first
    |(go_at_call 328;refine Sb (hh _) fun w' m=>?_;first|(obtain⟨y0,y1,y2,k0,k1,k2⟩:=Jea m P C E f0 f1 f2)|(obtain⟨y0,y1,y2⟩:=room_full m P C E)))
  all_goals
   rename_i hH
   have HB:=Za hH.2.2;clear hH;go_wp2_with fail;refine bodyPost_ret (v:=.tuple #[Vi wt,.agg #[Vi O,Vi y,Vi n],.nilIface]) ?_ rfl ⟨rfl,HB.o⟩
   simp[results,results321,go_sem,y0,y1,y2]
theorem C8(y:Bw u u')(h:(V0 u w 4 M/\V4 u w 0 k)/\(V3 u w 0 A/\V3 u w 1 D/\V3 u w 2 W)/\Bw w u):(V0 u' w 4 M/\V4 u' w 0 k)/\(V3 u' w 0 A/\V3 u' w 1 D/\V3 u' w 2 W)/\Bw w u':=
 ⟨⟨Zl y h.1.1,Zl y h.1.2⟩,⟨Zl y h.2.1.1,Zl y h.2.1.2.1,Zl y h.2.1.2.2⟩,Zc h.2.2 y⟩
theorem IK(h:(V0 u w 4 M/\V4 u w 0 k)/\(V3 u w 0 A/\V3 u w 1 D/\V3 u w 2 W)/\Bw w u):((u.setCell (Ad (w.heap.size+1+1+1) j) x).cell? (Ad w.heap.size 4)=some (Vi M)/\(u.setCell (Ad (w.heap.size+1+1+1) j) x).cell? (Ad (w.heap.size+1+1) 0)=some (Vi k))/\((u.setCell (Ad (w.heap.size+1+1+1) j) x).cell? (Ad (w.heap.size+1) 0)=some (Vi A)/\(u.setCell (Ad (w.heap.size+1+1+1) j) x).cell? (Ad (w.heap.size+1) 1)=some (Vi D)/\(u.setCell (Ad (w.heap.size+1+1+1) j) x).cell? (Ad (w.heap.size+1) 2)=some (Vi W))/\Bw w (u.setCell (Ad (w.heap.size+1+1+1) j) x):=by
 have n0:w.heap.size+1+1+1≠w.heap.size:=by omega
 have n1:w.heap.size+1+1+1≠w.heap.size+1:=by omega
 have y:w.heap.size+1+1+1≠w.heap.size+1+1:=by omega
 exact⟨⟨Zj n0 h.1.1,Zj y h.1.2⟩,⟨Zj n1 h.2.1.1,Zj n1 h.2.1.2.1,Zj n1 h.2.1.2.2⟩,h.2.2.setCell (by simp;omega) _⟩
theorem Jhu{ba oa bz oz:Nat}(y:Bw u u')(h:(V1 u w 5 (Vf ba oa la ca)/\V1 u w 6 (Vf bz oz lz cz)/\V3 u w 0 A)/\(V4 u w 0 k/\V4 u w 1 p/\V4 u w 2 v/\V4 u w 3 n/\V4 u w 4 q)/\Bw w u):(V1 u' w 5 (Vf ba oa la ca)/\V1 u' w 6 (Vf bz oz lz cz)/\V3 u' w 0 A)/\(V4 u' w 0 k/\V4 u' w 1 p/\V4 u' w 2 v/\V4 u' w 3 n/\V4 u' w 4 q)/\Bw w u':=
 ⟨⟨Zl y h.1.1,Zl y h.1.2.1,Zl y h.1.2.2⟩,⟨Zl y h.2.1.1,Zl y h.2.1.2.1,Zl y h.2.1.2.2.1,Zl y h.2.1.2.2.2.1,Zl y h.2.1.2.2.2.2⟩,Zc h.2.2 y⟩
theorem TW(L H U B M:Int)(a z:V8)(X Q:Nat)(al zl:V9)(A D W k p v n q:Int)(h0:hoE L H U B M al zl A D W k n q=0)(n1:n<=1)(w:V6)(ha:Lst w a al)(hz:Lst w z zl):
 Va 136 #[.agg (Qas L H U B M a z al zl X Q),.agg #[Vi A,Vi D,Vi W],.agg #[Vi k,Vi p,Vi v,Vi n,Vi q]] w (Rt w (.tuple #[Vi (wtI L H U M al zl A D W k p v n q),.agg #[Vi (a2I L H U A W k p n),Vi (d2I L H U M al zl A D W k p v n q),Vi n]])):=by
 obtain⟨e1,e2,e3⟩:=Wz h0;obtain⟨e4,e5,e6,_⟩:=Wl e1;obtain⟨⟨l0,l1⟩,⟨u0,u1⟩,⟨t0,t1⟩,⟨b0,b1⟩,m0,m1⟩:=Wk e4;obtain⟨⟨a0,a1⟩,⟨d0,d1⟩,_,_⟩:=Nl e2;obtain⟨⟨k0,k1⟩,⟨n0,_⟩,q0',q1'⟩:=E9 e3;obtain⟨C,E,F,I,rfl,rfl,hl⟩:=KA e6 ha hz;have hf:=JJ k U k0 k1 t0 (by omega);have hj:=Jak k0 k1 t0 (show U<=4000 by omega)
 have n2:(n==2)=false:=by simp;omega
 have n3:(n==3)=false:=by simp;omega
 unfold wtI d2I ppI a2I a1I
 have hb:=fun u (h:Bw w u)=>WM C E X F I Q al zl v u (hl.lq h);clear h0 e1 e2 e3 e4 e6 ha hz hl n1;generalize Y7 al zl v=g at *;generalize CX k U=hu at *;obtain⟨ht,hv⟩:=hj
 by_cases hW:n=W
 case' pos=>
  obtain⟨m,rfl⟩:∃m,m=A:=⟨_,rfl⟩;obtain⟨y,rfl⟩:∃y,y=D:=⟨_,rfl⟩;rw[if_pos hW,if_pos hW]
  have hg:(n != W)=false:=by simp[hW]
  clear hW;have hc:=Yx (m+hu) L H (h:=e5);have x2b:=Xu (m+hu) e5;generalize Ze (m+hu) L H=j at *;have hd:=G9 g j k p v n q (by omega) (by omega);have ppb:=Na g j p;generalize Y8 g j p=pp at *;obtain⟨pp0,pp1⟩:=ppb;have hh:=Yx (pp+y) (-M) M;generalize Ze (pp+y) (-M) M=wt at *;have v1:=Wr (m+hu);have v2:=Wr (pp+y);have v3:=Wr (-M);have he:∀u,(V1 u w 5 (Vf C E al.length X)/\V1 u w 6 (Vf F I zl.length Q)/\V3 u w 0 j)/\(V4 u w 0 k/\V4 u w 1 p/\V4 u w 2 v/\V4 u w 3 n/\V4 u w 4 q)/\Bw w u->_:=fun u h=>hb u h.2.2;clear hb
  go_enter func136,ntmps136
  go_upto_region 9 with fail;have Hb:=Za (HW.new w L H U B M (some (Ad C E)) (some (Ad F I)) al.length zl.length X Q m y n k p v n q)
 case' neg=>
  rw[if_neg hW,if_neg hW]
  have hg:(n != W)=true:=by simpa using hW
  clear hW;have hm:=Yx p L H (h:=e5);have x1b:=Xu p e5;generalize Ze p L H=m at *;have hc:=Yx (m+hu) L H (h:=e5);have x2b:=Xu (m+hu) e5;generalize Ze (m+hu) L H=j at *;have hd:=G9 g j k p v n q (by omega) (by omega);have ppb:=Na g j p;generalize Y8 g j p=pp at *;obtain⟨pp0,pp1⟩:=ppb;have hn:=Yx (q-pp) (-M) M;have yb:=Xu (q-pp) (lo:=-M) (hi:=M) (by omega);generalize Ze (q-pp) (-M) M=y at *;have hh:=Yx (pp+y) (-M) M;generalize Ze (pp+y) (-M) M=wt at *;have v1:=Wr (m+hu);have v2:=Wr (pp+y);have v3:=Wr (-M);have he:∀u,(V1 u w 5 (Vf C E al.length X)/\V1 u w 6 (Vf F I zl.length Q)/\V3 u w 0 j)/\(V4 u w 0 k/\V4 u w 1 p/\V4 u w 2 v/\V4 u w 3 n/\V4 u w 4 q)/\Bw w u->_:=fun u h=>hb u h.2.2;clear hb
  go_enter func136,ntmps136
  go_upto_region 9 with(go_at_call 72;refine Sm (hm _) ?_);have Hb:=Za (HW.new w L H U B M (some (Ad C E)) (some (Ad F I)) al.length zl.length X Q m D n k p v n q)
 all_goals
  generalize ho:World.alloc (World.alloc (World.alloc (World.alloc _ _) _) _) _=w2 at *;clear ho;obtain⟨⟨q0,G,R,O,q4,T,J⟩,⟨N,s1,s2⟩,⟨r0,r1,r2,r3,r4⟩,⟨p0,p1,p2⟩,⟨g0,g1,g2⟩,⟨f0,f1,f2⟩,Y⟩:=Hb.o;have Z:=Za (show(V0 w2 w 0 L/\V0 w2 w 1 H/\V0 w2 w 2 U/\V4 w2 w 0 k)/\Bw w w2 from⟨⟨q0,G,R,r0⟩,Y⟩);clear Y;apply PA
  . intro hk;refine wp_region_held_drew (S:=fun u=>(V0 u w 0 L/\V0 u w 1 H/\V0 u w 2 U/\V4 u w 0 k)/\Bw w u) (by kernel_rfl) (Xh Vb Z.o) (fun hHeld=>?_);refine Tp 0 ?_;(try simp only[Act.put]);refine Tp 2 ?_;(try simp only[Act.put]);refine Tp 3 ?_;(try simp only[Act.put]);refine Tp 4 ?_;(try simp only[Act.put]);refine Tp 5 ?_;(try simp only[Act.put]);refine Tp 8 ?_;(try simp only[Act.put]);refine Tp 9 ?_;(try simp only[Act.put]);refine Tp 10 ?_;(try simp only[Act.put]);refine Tp 11 ?_;(try simp only[Act.put]);refine Tp 12 ?_;(try simp only[Act.put]);refine Tp 13 ?_;(try simp only[Act.put]);refine Rb 1 6 (fun K hK=>?_) (fun K hK=>?_)
    . go_simp;refine hK.out _ _ (Xh Vb Z.o) (fun hHeld=>?_);clear hK K;refine Ra 6 (fun K hK=>?_);go_simp;refine Sm (hf _) ?_;go_wp2_with fail;refine hK.out _ _ (Xh Vb Z.o) (fun hHeld=>?_);clear hK K;refine Tp 7 ?_;(try simp only[Act.put]);refine Ra 14 (fun K hK=>?_);go_simp;refine Sm (hc _) ?_;go_wp2_with fail;refine hK.out _ _ (Xh Vb Z.o) (fun hHeld=>?_);clear hK K;refine Tp 15 ?_;(try simp only[Act.put]);refine Ra 16 (fun K hK=>?_);go_simp;refine hK.out _ _ (IJ (Xh Vb Z.o)) (fun hHeld=>?_);clear hK K;refine Dn ?_;exact hk
    . go_simp;refine Sm (hf _) ?_;go_wp2_with fail;refine hK.out _ _ (Xh Vb Z.o) (fun hHeld=>?_);clear hK K;refine Ra 1 (fun K hK=>?_);go_simp;refine hK.out _ _ (Xh Vb Z.o) (fun hHeld=>?_);clear hK K;refine Tp 7 ?_;(try simp only[Act.put]);refine Ra 14 (fun K hK=>?_);go_simp;refine Sm (hc _) ?_;go_wp2_with fail;refine hK.out _ _ (Xh Vb Z.o) (fun hHeld=>?_);clear hK K;refine Tp 15 ?_;(try simp only[Act.put]);refine Ra 16 (fun K hK=>?_);go_simp;refine hK.out _ _ (IJ (Xh Vb Z.o)) (fun hHeld=>?_);clear hK K;refine Dn ?_;exact hk
  have P:=Za ((Hb.o.setA j).lq Vb);clear Hb Z;generalize hp:World.drew (World.setCell _ _ (Vi j))=w3 at *;clear hp;clear q0 G R O q4 T J N s1 s2 r0 r1 r2 r3 r4 p0 p1 p2 g0 g1 g2 f0 f1 f2;obtain⟨⟨q0,G,R,O,q4,T,J⟩,⟨N,s1,s2⟩,⟨r0,r1,r2,r3,r4⟩,⟨p0,p1,p2⟩,⟨g0,g1,g2⟩,⟨f0,f1,f2⟩,Y⟩:=P.o
  go_upto_region 10 with fail;have Z:=Za (show(V1 w3 w 5 (Vf C E al.length X)/\V1 w3 w 6 (Vf F I zl.length Q)/\V3 w3 w 0 j)/\(V4 w3 w 0 k/\V4 w3 w 1 p/\V4 w3 w 2 v/\V4 w3 w 3 n/\V4 w3 w 4 q)/\Bw w w3 from⟨⟨T,J,N⟩,⟨r0,r1,r2,r3,r4⟩,Y⟩);clear Y
  go_region_held3 (fun u=>(V1 u w 5 (Vf C E al.length X)/\V1 u w 6 (Vf F I zl.length Q)/\V3 u w 0 j)/\(V4 u w 0 k/\V4 u w 1 p/\V4 u w 2 v/\V4 u w 3 n/\V4 u w 4 q)/\Bw w u)
   (first
    |(with_reducible assumption)
    |(with_reducible apply Jhu;with_reducible assumption;with_reducible assumption)
    |(with_reducible refine Jhu Vb ?_;exact Z.o))
   (first
    |(go_at_call 185;refine(he _ ?_).mono ?_;(with_reducible assumption);rintro e w4 ⟨rfl,hq⟩;have P:=Za (P.o.lq (Below.trans Vb hq)))
    |(go_at_call 184;refine Sb (hd _) fun w5 hr=>?_;have P:=Za (P.o.lq hr)))
  clear Z q0 G R O q4 T J N s1 s2 r0 r1 r2 r3 r4 p0 p1 p2 g0 g1 g2 f0 f1 f2 he hd;obtain⟨⟨q0,G,R,O,q4,T,J⟩,⟨N,s1,s2⟩,⟨r0,r1,r2,r3,r4⟩,⟨p0,p1,p2⟩,⟨g0,g1,g2⟩,⟨f0,f1,f2⟩,Y⟩:=P.o;clear Y
  first
   |(have hz:(n != W)=false:=hg;clear hz;go_upto_region 13 with fail;have Hc:=P;clear P;obtain⟨⟨q0,G,R,O,q4,T,J⟩,⟨N,s1,s2⟩,⟨r0,r1,r2,r3,r4⟩,⟨p0,p1,p2⟩,⟨g0,g1,g2⟩,⟨f0,f1,f2⟩,Y⟩:=Hc.o;rename World=>w6)
   |(go_upto_region 13 with(go_at_call 72;refine Sm (hn _) ?_);have Hc:=Za (P.o.setD y);clear P;generalize hs:World.setCell _ _ (Vi y)=w6 at *;clear hs;clear q0 G R O q4 T J N s1 s2 r0 r1 r2 r3 r4 p0 p1 p2 g0 g1 g2 f0 f1 f2;obtain⟨⟨q0,G,R,O,q4,T,J⟩,⟨N,s1,s2⟩,⟨r0,r1,r2,r3,r4⟩,⟨p0,p1,p2⟩,⟨g0,g1,g2⟩,⟨f0,f1,f2⟩,Y⟩:=Hc.o)
  have Z:=Za (show(V0 w6 w 0 L/\V0 w6 w 1 H/\V0 w6 w 2 U/\V0 w6 w 3 B/\V0 w6 w 4 M/\V1 w6 w 5 (Vf C E al.length X)/\V1 w6 w 6 (Vf F I zl.length Q))/\(V3 w6 w 0 j/\V3 w6 w 1 y/\V3 w6 w 2 n)/\Bw w w6 from⟨⟨q0,G,R,O,q4,T,J⟩,⟨N,s1,s2⟩,Y⟩);clear Y q0 G R O q4 T J N s1 s2 r0 r1 r2 r3 r4 g0 g1 g2
  go_region_held3 (fun u=>(V0 u w 0 L/\V0 u w 1 H/\V0 u w 2 U/\V0 u w 3 B/\V0 u w 4 M/\V1 u w 5 (Vf C E al.length X)/\V1 u w 6 (Vf F I zl.length Q))/\(V3 u w 0 j/\V3 u w 1 y/\V3 u w 2 n)/\Bw w u)
   (first
    |(with_reducible assumption)
    |(with_reducible apply PC;with_reducible assumption;with_reducible assumption)
    |((repeat (with_reducible first|exact Z.o|assumption|refine PC Vb ?_|refine Jbg ?_));done))
   (first
    |(go_at_call 72;refine Sm (hh _) ?_))
  all_goals
   rename_i hH
   have HB:=Za hH.2.2;clear hH;go_wp2_with fail;refine bodyPost_ret (v:=.tuple #[Vi wt,.agg #[Vi j,Vi y,Vi n]]) ?_ rfl ⟨rfl,HB.o⟩
   simp[results,results136,go_sem,p0,p1,p2]
theorem LX(L H U B M:Int)(a z:V8)(e Y:Nat)(al zl:V9)(A D W k p v n q:Int)(h0:hoE L H U B M al zl A D W k n q=0)(w:V6)(ha:Lst w a al)(I:Lst w z zl):
 Va 136 #[.agg (Qas L H U B M a z al zl e Y),.agg #[Vi A,Vi D,Vi W],.agg #[Vi k,Vi p,Vi v,Vi n,Vi q]] w (Rt w (.tuple #[Vi (wX L H U M al zl A D W k p v n q),.agg #[Vi (wA L H U A W k p n),Vi (wD L H U M al zl A D W k p v n q),Vi n]])):=by
 obtain⟨O,e2,e3⟩:=Wz h0;obtain⟨e4,e5,e6,_⟩:=Wl O;obtain⟨_,_,_,_,m0,m1⟩:=Wk e4;obtain⟨⟨k0,k1⟩,⟨n0,n3'⟩,_,_⟩:=E9 e3
 by_cases n1:n<=1
 . have:=TW L H U B M a z e Y al zl A D W k p v n q h0 n1 w ha I
   unfold wX wA wD;rw[if_pos n1,if_pos n1,if_pos n1];exact this
 . unfold wX wA wD;rw[if_neg n1,if_neg n1,if_neg n1]
   have HX:=Za (HW.new w L H U B M a z al.length zl.length e Y A D n k p v n q);have hc:=JJ k M k0 k1 (by omega) (by omega);clear h0 O e2 e3 e4 e6 ha I
   by_cases n2:n=2
   . rw[if_pos n2];subst n2;generalize CX k M=hu at*
     go_enter func136,ntmps136
     go_upto_region 4 with fail;generalize X:World.alloc (World.alloc (World.alloc (World.alloc _ _) _) _) _=w2 at *;clear X;obtain⟨⟨q0,Q,G,R,q4,T,J⟩,⟨h,y,j⟩,⟨r0,r1,r2,r3,r4⟩,⟨K,N,P⟩,⟨g0,C,E⟩,⟨f0,f1,f2⟩,m⟩:=HX.o;have Z:=Za (show(V0 w2 w 4 M/\V4 w2 w 0 k)/\(V3 w2 w 0 A/\V3 w2 w 1 D/\V3 w2 w 2 2)/\Bw w w2 from⟨⟨q4,r0⟩,⟨h,y,j⟩,m⟩);clear m q0 Q G R q4 T J h y j r0 r1 r2 r3 r4 g0 C E
     go_region_held3 (fun u=>(V0 u w 4 M/\V4 u w 0 k)/\(V3 u w 0 A/\V3 u w 1 D/\V3 u w 2 2)/\Bw w u)
      (first
       |(with_reducible assumption)
       |(with_reducible apply C8;with_reducible assumption;with_reducible assumption)
       |((repeat (with_reducible first|exact Z.o|assumption|refine C8 Vb ?_|refine IK ?_));done))
      (first
       |(go_at_call 183;refine Sm (hc _) ?_))
     all_goals
      rename_i hH
      have F:=Za hH.2.2;clear hH;go_wp2_with fail;refine bodyPost_ret (v:=.tuple #[Vi hu,.agg #[Vi A,Vi D,Vi 2]]) ?_ rfl ⟨rfl,F.o⟩
      simp[results,results136,go_sem,K,N,P]
   . rw[if_neg n2]
     obtain rfl:n=3:=by omega
     clear n1 n2 n0 n3' hc
     go_enter func136,ntmps136
     go_upto_region 6 with fail;generalize X:World.alloc (World.alloc (World.alloc (World.alloc _ _) _) _) _=w2 at *;clear X;obtain⟨⟨q0,Q,G,R,q4,T,J⟩,⟨h,y,j⟩,⟨r0,r1,r2,r3,r4⟩,⟨K,N,P⟩,⟨g0,C,E⟩,⟨f0,f1,f2⟩,m⟩:=HX.o;have Z:=Za (show(V0 w2 w 4 M/\V4 w2 w 0 k)/\(V3 w2 w 0 A/\V3 w2 w 1 D/\V3 w2 w 2 3)/\Bw w w2 from⟨⟨q4,r0⟩,⟨h,y,j⟩,m⟩);clear m q0 Q G R q4 T J h y j r0 r1 r2 r3 r4 g0 C E
     go_region_held3 (fun u=>(V0 u w 4 M/\V4 u w 0 k)/\(V3 u w 0 A/\V3 u w 1 D/\V3 u w 2 3)/\Bw w u)
      (first
       |(with_reducible assumption)
       |(with_reducible apply C8;with_reducible assumption;with_reducible assumption)
       |((repeat (with_reducible first|exact Z.o|assumption|refine C8 Vb ?_|refine IK ?_));done))
      (fail)
     all_goals
      rename_i hH
      have F:=Za hH.2.2;clear hH;go_wp2_with fail;refine bodyPost_ret (v:=.tuple #[Vi 0,.agg #[Vi A,Vi D,Vi 3]]) ?_ rfl ⟨rfl,F.o⟩
      simp[results,results136,go_sem,K,N,P]
theorem TX(L H U B M:Int)(a z:V8)(al zl h y:Nat)(x:Int)(m0:1<=M)(m1:M<=4000)(w:V6):
 Va 328 #[.agg #[Vi L,Vi H,Vi U,Vi B,Vi M,.slice a al h,.slice z zl y],Vi x] w fun e w'=>e=.returned (Vi (Ze x (-M) M))/\w'=w.alloc (.cells #[Vi L,Vi H,Vi U,Vi B,Vi M,.slice a al h,.slice z zl y] 224):=by
 have c1:=Y1 x (-M) M;generalize Ze x (-M) M=m at*
 go_enter func328,ntmps328
 go_wp2_with (go_at_call 264;refine Sm (c1 _) ?_);go_ret;exact⟨rfl,rfl⟩
theorem TY(aim p g:Int)(j:-100000<=aim)(H:aim<=100000)(w:V6):
 Va 329 #[Vi aim,Vi p,Vi g] w fun e w'=>e=.returned (Vi (Y8 g aim p))/\w'=w.drew:=by
 have c1:=Y1 p (-2000000) 2000000;have h:=Xu p (lo:=-2000000) (hi:=2000000) (by omega);have c2:=Y1 (aim-Ze p (-2000000) 2000000) (-1000000) 1000000;have c3:=JF g (Ze (aim-Ze p (-2000000) 2000000) (-1000000) 1000000);obtain⟨Z,Y⟩:=h
 unfold Y8
 generalize IS g (Ze (aim-Ze p (-2000000) 2000000) (-1000000) 1000000)=m at *;generalize Ze (aim-Ze p (-2000000) 2000000) (-1000000) 1000000=y at *;generalize Ze p (-2000000) 2000000=x at*
 go_enter func329,ntmps329
 go_wp2_with (first
  |(go_at_call_of 264 p;refine Sm (c1 _) ?_)
  |(go_at_call_of 264 (aim-x);refine Sm (c2 _) ?_)
  |(go_at_call 351;refine Sm (c3 _) ?_))
 go_ret;exact⟨rfl,rfl⟩
theorem YC(g aim k p v n q:Int)(j:-100000<=aim)(H:aim<=100000)(w:V6):
 Va 184 #[Vi g,Vi aim,.agg #[Vi k,Vi p,Vi v,Vi n,Vi q]] w fun e w'=>e=.returned (Vi (Y8 g aim p))/\w'=w.alloc (.cells #[Vi k,Vi p,Vi v,Vi n,Vi q] 238):=by
 have c1:=Yx p (-2000000) 2000000;have h:=Xu p (lo:=-2000000) (hi:=2000000) (by omega);have c2:=Yx (aim-Ze p (-2000000) 2000000) (-1000000) 1000000;have c3:=JG g (Ze (aim-Ze p (-2000000) 2000000) (-1000000) 1000000);obtain⟨Z,Y⟩:=h
 unfold Y8
 generalize IS g (Ze (aim-Ze p (-2000000) 2000000) (-1000000) 1000000)=m at *;generalize Ze (aim-Ze p (-2000000) 2000000) (-1000000) 1000000=y at *;generalize Ze p (-2000000) 2000000=x at*
 go_enter func184,ntmps184
 go_wp2_with (first
  |(go_at_call_of 72 p;refine Sm (c1 _) ?_)
  |(go_at_call_of 72 (aim-x);refine Sm (c2 _) ?_)
  |(go_at_call 233;refine Sm (c3 _) ?_))
 go_ret;exact⟨rfl,rfl⟩
theorem Yd(y:Bw u u')(h:(V0 u w 3 B/\V0 u w 4 M/\V3 u w 0 A)/\(V4 u w 0 k/\V4 u w 1 p/\V4 u w 2 v/\V4 u w 3 n/\V4 u w 4 q)/\Bw w u):(V0 u' w 3 B/\V0 u' w 4 M/\V3 u' w 0 A)/\(V4 u' w 0 k/\V4 u' w 1 p/\V4 u' w 2 v/\V4 u' w 3 n/\V4 u' w 4 q)/\Bw w u':=
 ⟨⟨Zl y h.1.1,Zl y h.1.2.1,Zl y h.1.2.2⟩,⟨Zl y h.2.1.1,Zl y h.2.1.2.1,Zl y h.2.1.2.2.1,Zl y h.2.1.2.2.2.1,Zl y h.2.1.2.2.2.2⟩,Zc h.2.2 y⟩
theorem W4(h:(V0 u w 3 B/\V0 u w 4 M/\V3 u w 0 A)/\(V4 u w 0 k/\V4 u w 1 p/\V4 u w 2 v/\V4 u w 3 n/\V4 u w 4 q)/\Bw w u):((u.setCell (Ad (w.heap.size+1) 1) x).cell? (Ad w.heap.size 3)=some (Vi B)/\(u.setCell (Ad (w.heap.size+1) 1) x).cell? (Ad w.heap.size 4)=some (Vi M)/\(u.setCell (Ad (w.heap.size+1) 1) x).cell? (Ad (w.heap.size+1) 0)=some (Vi A))/\((u.setCell (Ad (w.heap.size+1) 1) x).cell? (Ad (w.heap.size+1+1) 0)=some (Vi k)/\(u.setCell (Ad (w.heap.size+1) 1) x).cell? (Ad (w.heap.size+1+1) 1)=some (Vi p)/\(u.setCell (Ad (w.heap.size+1) 1) x).cell? (Ad (w.heap.size+1+1) 2)=some (Vi v)/\(u.setCell (Ad (w.heap.size+1) 1) x).cell? (Ad (w.heap.size+1+1) 3)=some (Vi n)/\(u.setCell (Ad (w.heap.size+1) 1) x).cell? (Ad (w.heap.size+1+1) 4)=some (Vi q))/\Bw w (u.setCell (Ad (w.heap.size+1) 1) x):=by
 have n0:w.heap.size+1≠w.heap.size:=by omega
 have y:w.heap.size+1≠w.heap.size+1+1:=by omega
 exact⟨⟨Zj n0 h.1.1,Zj n0 h.1.2.1,Ul h.1.2.2⟩,⟨Zj y h.2.1.1,Zj y h.2.1.2.1,Zj y h.2.1.2.2.1,Zj y h.2.1.2.2.2.1,Zj y h.2.1.2.2.2.2⟩,h.2.2.setCell (by simp) _⟩
theorem Ye{a z:V8}(y:Bw u u')(h:(V0 u w 0 L/\V0 u w 1 H/\V0 u w 2 U/\V0 u w 3 B/\V0 u w 4 M/\V1 u w 5 (.slice a la ca)/\V1 u w 6 (.slice z lz cz))/\(V3 u w 0 A/\V4 u w 1 p)/\Bw w u):(V0 u' w 0 L/\V0 u' w 1 H/\V0 u' w 2 U/\V0 u' w 3 B/\V0 u' w 4 M/\V1 u' w 5 (.slice a la ca)/\V1 u' w 6 (.slice z lz cz))/\(V3 u' w 0 A/\V4 u' w 1 p)/\Bw w u':=
 ⟨⟨Zl y h.1.1,Zl y h.1.2.1,Zl y h.1.2.2.1,Zl y h.1.2.2.2.1,Zl y h.1.2.2.2.2.1,Zl y h.1.2.2.2.2.2.1,Zl y h.1.2.2.2.2.2.2⟩,⟨Zl y h.2.1.1,Zl y h.2.1.2⟩,Zc h.2.2 y⟩
theorem W5{a z:V8}(h:(V0 u w 0 L/\V0 u w 1 H/\V0 u w 2 U/\V0 u w 3 B/\V0 u w 4 M/\V1 u w 5 (.slice a la ca)/\V1 u w 6 (.slice z lz cz))/\(V3 u w 0 A/\V4 u w 1 p)/\Bw w u):((u.setCell (Ad (w.heap.size+1) 1) x).cell? (Ad w.heap.size 0)=some (Vi L)/\(u.setCell (Ad (w.heap.size+1) 1) x).cell? (Ad w.heap.size 1)=some (Vi H)/\(u.setCell (Ad (w.heap.size+1) 1) x).cell? (Ad w.heap.size 2)=some (Vi U)/\(u.setCell (Ad (w.heap.size+1) 1) x).cell? (Ad w.heap.size 3)=some (Vi B)/\(u.setCell (Ad (w.heap.size+1) 1) x).cell? (Ad w.heap.size 4)=some (Vi M)/\(u.setCell (Ad (w.heap.size+1) 1) x).cell? (Ad w.heap.size 5)=some (.slice a la ca)/\(u.setCell (Ad (w.heap.size+1) 1) x).cell? (Ad w.heap.size 6)=some (.slice z lz cz))/\((u.setCell (Ad (w.heap.size+1) 1) x).cell? (Ad (w.heap.size+1) 0)=some (Vi A)/\(u.setCell (Ad (w.heap.size+1) 1) x).cell? (Ad (w.heap.size+1+1) 1)=some (Vi p))/\Bw w (u.setCell (Ad (w.heap.size+1) 1) x):=by
 have n0:w.heap.size+1≠w.heap.size:=by omega
 have y:w.heap.size+1≠w.heap.size+1+1:=by omega
 exact⟨⟨Zj n0 h.1.1,Zj n0 h.1.2.1,Zj n0 h.1.2.2.1,Zj n0 h.1.2.2.2.1,Zj n0 h.1.2.2.2.2.1,Zj n0 h.1.2.2.2.2.2.1,Zj n0 h.1.2.2.2.2.2.2⟩,⟨Ul h.2.1.1,Zj y h.2.1.2⟩,h.2.2.setCell (by simp) _⟩
theorem TZ(L H U B M:Int)(a z:V8)(la lz J N:Nat)(A D W k p v n q want got:Int)(a0:-100000<=A)(a1:A<=100000)(m0:1<=M)(m1:M<=4000)(d0:-M<=D)(d1:D<=M)(w:V6):
 Va 139 #[.agg #[Vi L,Vi H,Vi U,Vi B,Vi M,.slice a la J,.slice z lz N],.agg #[Vi A,Vi D,Vi W],.agg #[Vi k,Vi p,Vi v,Vi n,Vi q],Vi want,Vi got] w (Rt w (.agg #[Vi A,Vi (toD B M A D p n want got),Vi W])):=by
 have e:=Za (HW.new w L H U B M a z la lz J N A D W k p v n q)
 unfold toD
 by_cases hg:want=got
 . by_cases hn:n=0
   . rw[if_pos ⟨hn,hg.symm⟩]
     have hg':(want==got)=true:=by simpa using hg
     have hn':(n==0)=true:=by simpa using hn
     clear hg hn;have ha:=YC B A k p v n q a0 a1;have ppb:=Na B A p;generalize Y8 B A p=pp at *;obtain⟨pp0,pp1⟩:=ppb;have P:=Yx (D+pp) (-M) M;generalize Ze (D+pp) (-M) M=y at *;have v2:=Wr (D+pp);have v3:=Wr (-M)
     go_enter func139,ntmps139
     go_upto_region 2 with fail;generalize hc:World.alloc (World.alloc (World.alloc (World.alloc _ _) _) _) _=w2 at *;clear hc;obtain⟨⟨q0,C,E,Y,q4,F,I⟩,⟨X,j,O⟩,⟨r0,r1,r2,r3,r4⟩,⟨Q,G,R⟩,⟨g0,T,g2⟩,⟨f0,f1,f2⟩,m⟩:=e.o;have Z:=Za (show(V0 w2 w 3 B/\V0 w2 w 4 M/\V3 w2 w 0 A)/\(V4 w2 w 0 k/\V4 w2 w 1 p/\V4 w2 w 2 v/\V4 w2 w 3 n/\V4 w2 w 4 q)/\Bw w w2 from⟨⟨Y,q4,X⟩,⟨r0,r1,r2,r3,r4⟩,m⟩);have x1:=Zl (Zb w2 (.cells #[Vi k,Vi p,Vi v,Vi n,Vi q] 238)) j;have x2:=Yw (Zb w2 (.cells #[Vi k,Vi p,Vi v,Vi n,Vi q] 238)) j T;clear m;apply PA
     . intro hk;refine wp_region_held_drew (S:=fun u=>(V0 u w 3 B/\V0 u w 4 M/\V3 u w 0 A)/\(V4 u w 0 k/\V4 u w 1 p/\V4 u w 2 v/\V4 u w 3 n/\V4 u w 4 q)/\Bw w u) (by kernel_rfl) (by first|exact Yd Vb Z.o|(repeat (with_reducible first|exact Z.o|refine Yd Vb ?_|refine Yd Vc ?_|refine W4 ?_))) (fun hHeld=>?_);refine Tp 0 ?_;(try simp only[Act.put]);refine Tp 2 ?_;(try simp only[Act.put]);refine Tp 3 ?_;(try simp only[Act.put]);refine Tp 4 ?_;(try simp only[Act.put]);refine Tp 5 ?_;(try simp only[Act.put]);refine Tp 6 ?_;(try simp only[Act.put]);refine Tp 9 ?_;(try simp only[Act.put]);refine Tp 10 ?_;(try simp only[Act.put]);refine Tp 11 ?_;(try simp only[Act.put]);refine Tp 12 ?_;(try simp only[Act.put]);refine Tp 13 ?_;(try simp only[Act.put]);refine Rb 1 7 (fun K hK=>?_) (fun K hK=>?_)
       . go_simp;refine hK.out _ _ (by first|exact Yd Vb Z.o|(repeat (with_reducible first|exact Z.o|refine Yd Vb ?_|refine Yd Vc ?_|refine W4 ?_))) (fun hHeld=>?_);clear hK K;refine Ra 7 (fun K hK=>?_);go_simp;refine Sm (ha _) ?_;go_wp2_with fail;refine hK.out _ _ (by first|exact Yd Vb Z.o|(repeat (with_reducible first|exact Z.o|refine Yd Vb ?_|refine Yd Vc ?_|refine W4 ?_))) (fun hHeld=>?_);clear hK K;refine Tp 8 ?_;(try simp only[Act.put]);refine Ra 14 (fun K hK=>?_);go_simp;refine Sm (P _) ?_;go_wp2_with fail;refine hK.out _ _ (by first|exact Yd Vb Z.o|(repeat (with_reducible first|exact Z.o|refine Yd Vb ?_|refine Yd Vc ?_|refine W4 ?_))) (fun hHeld=>?_);clear hK K;refine Tp 15 ?_;(try simp only[Act.put]);refine Ra 16 (fun K hK=>?_);go_simp;refine hK.out _ _ (by first|exact Yd Vb Z.o|(repeat (with_reducible first|exact Z.o|refine Yd Vb ?_|refine Yd Vc ?_|refine W4 ?_))) (fun hHeld=>?_);clear hK K;refine Dn ?_;exact hk
       . go_simp;refine Sm (ha _) ?_;go_wp2_with fail;refine hK.out _ _ (by first|exact Yd Vb Z.o|(repeat (with_reducible first|exact Z.o|refine Yd Vb ?_|refine Yd Vc ?_|refine W4 ?_))) (fun hHeld=>?_);clear hK K;refine Ra 1 (fun K hK=>?_);go_simp;refine hK.out _ _ (by first|exact Yd Vb Z.o|(repeat (with_reducible first|exact Z.o|refine Yd Vb ?_|refine Yd Vc ?_|refine W4 ?_))) (fun hHeld=>?_);clear hK K;refine Tp 8 ?_;(try simp only[Act.put]);refine Ra 14 (fun K hK=>?_);go_simp;refine Sm (P _) ?_;go_wp2_with fail;refine hK.out _ _ (by first|exact Yd Vb Z.o|(repeat (with_reducible first|exact Z.o|refine Yd Vb ?_|refine Yd Vc ?_|refine W4 ?_))) (fun hHeld=>?_);clear hK K;refine Tp 15 ?_;(try simp only[Act.put]);refine Ra 16 (fun K hK=>?_);go_simp;refine hK.out _ _ (by first|exact Yd Vb Z.o|(repeat (with_reducible first|exact Z.o|refine Yd Vb ?_|refine Yd Vc ?_|refine W4 ?_))) (fun hHeld=>?_);clear hK K;refine Dn ?_;exact hk
     have Ha:=Za (((e.o.lq (Zb _ (.cells #[Vi k,Vi p,Vi v,Vi n,Vi q] 238))).setD y).lq Vb);generalize hd:World.drew (World.setCell _ _ (Vi y))=w3 at *;clear hd e Z q0 C E Y q4 F I X j O r0 r1 r2 r3 r4 Q G R g0 T g2 f0 f1 f2 x1 x2;obtain⟨⟨q0,C,E,Y,q4,F,I⟩,⟨X,j,O⟩,⟨r0,r1,r2,r3,r4⟩,⟨Q,G,R⟩,⟨g0,T,g2⟩,⟨f0,f1,f2⟩,m⟩:=Ha.o;go_wp2_with fail;refine bodyPost_ret (v:=.agg #[Vi A,Vi y,Vi W]) ?_ rfl ⟨rfl,((m.setCell (by simp;omega) _).setCell (by simp;omega) _).setCell (by simp;omega) _⟩
     simp[results,results139,go_sem,Q,G,R]
   . rw[if_neg (fun h=>hn h.1)]
     have hg':(want==got)=true:=by simpa using hg
     have hn':(n==0)=false:=by simpa using hn
     clear hg hn
     go_enter func139,ntmps139
     go_wp2_with fail;exact bodyPost_ret (v:=.agg #[Vi A,Vi D,Vi W]) (by simp[results,results139,go_sem]) rfl ⟨rfl,by repeat (first|exact Zb _ _|refine Zc ?_ Vc)⟩
 . rw[if_neg (fun h=>hg h.2.symm)]
   have hg':(want==got)=false:=by simpa using hg
   clear hg
   go_enter func139,ntmps139
   go_wp2_with fail;exact bodyPost_ret (v:=.agg #[Vi A,Vi D,Vi W]) (by simp[results,results139,go_sem]) rfl ⟨rfl,by repeat (first|exact Zb _ _|refine Zc ?_ Vc)⟩
end Go.Proofs.YtnepnnkdgejheaaGreatDoor
