import Derived.Deep.CutRange
import Derived.Deep.DeepCutAuto
import Derived.BigRegion
import Derived.Deep.AppendLies
import Derived.Deep.AppendSrc
import Derived.Test.YtnepnnkdgejheaaGreatDoorKp02
set_option maxRecDepth 100000
set_option maxHeartbeats 20000000
namespace Go.Proofs.YtnepnnkdgejheaaGreatDoor
open Go.RowKit Plain Tryz
variable {C R S T hi lo x:Int}{w:V6}
theorem Za{p:Prop}(h:p):Hd p:=h
theorem Zb(w:V6)(o:Obj):Bw w (w.alloc o):=(Below.refl _ _).alloc (Nat.le_refl _) o
theorem Vc{o:Obj}:Bw w (w.alloc o):=Zb w o
theorem Zc{w1 w2:V6}(h:Bw w w1)(k:Bw w1 w2):Bw w w2:=h.trans (k.mono h.size)
def A1(x lo hi:Int):Bool:=decide (lo<=x)&&decide (x<=hi)
theorem Zw(h:A1 x lo hi=true):lo<=x/\x<=hi:=by simp[A1] at h;omega
theorem Xs(h0:lo<=x)(h1:x<=hi):A1 x lo hi=true:=by simp[A1];omega
theorem Zy(x lo hi:Int)(w:V6):
 Va 22 #[Vi x,Vi lo,Vi hi] w (Re w (.bool (A1 x lo hi))):=Nr x lo hi w
theorem RD(x lo hi:Int)(w:V6):
 Va 98 #[Vi x,.agg #[Vi lo,Vi hi]] w fun e w'=>e=.returned (.bool (A1 x lo hi))/\w'=w.alloc (.cells #[Vi lo,Vi hi] 140):=by
 unfold A1
 by_cases g1:lo<=x
 . by_cases g2:x<=hi
   . rw[decide_eq_true g1,decide_eq_true g2]
     go_enter func98,ntmps98
     go_wp2;go_ret;exact⟨rfl,rfl⟩
   . rw[decide_eq_true g1,decide_eq_false g2]
     go_enter func98,ntmps98
     go_wp2;go_ret;exact⟨by simp,rfl⟩
 . rw[decide_eq_false g1]
   go_enter func98,ntmps98
   go_wp2;go_ret;exact⟨rfl,rfl⟩
theorem Ys(x lo hi:Int)(w:V6):
 Va 55 #[Vi x,Vi lo,Vi hi] w fun e w'=>e=.returned (.bool (A1 x lo hi))/\w'=w.alloc (.cells #[Vi lo,Vi hi] 140):=by
 go_enter func55,ntmps55
 go_wp2_with (go_at_call 98;refine Sm (RD _ _ _ _) ?_);go_ret;exact⟨rfl,rfl⟩
def arB(T R S C:Int):Bool:=A1 T 1 1000&&A1 R 1 T&&A1 S 0 T&&A1 C 1 10
def arE(T R S C:Int):Int:=if arB T R S C then 0 else 1
theorem Yh(h:arB T R S C=true):(1<=T/\T<=1000)/\(1<=R/\R<=T)/\(0<=S/\S<=T)/\1<=C/\C<=10:=by
 simp only[arB,Bool.and_eq_true] at h;exact⟨Zw h.1.1.1,Zw h.1.1.2,Zw h.1.2,Zw h.2⟩
theorem Us(h:arE T R S C=0):arB T R S C=true:=by
 unfold arE at h;split at h
 . assumption
 . omega
theorem Jfu(h:arE T R S C≠0):arE T R S C=1:=by unfold arE at *;split<;>simp_all
theorem M3(T R S C:Int)(w:V6):
 Va 149 #[.agg #[Vi T,Vi R,Vi S,Vi C]] w (Rt w (A8 (arE T R S C))):=by
 have h:=Ys T 1 1000;have y:=Ys R 1 T;have f3:=Ys S 0 T;have j:=Ys C 1 10
 unfold arE arB
 generalize A1 T 1 1000=x1 at *;generalize A1 R 1 T=x2 at *;generalize A1 S 0 T=x3 at *;generalize A1 C 1 10=x4 at*
 rcases(show x1=false\/(x1=true/\x2=false)\/(x1=true/\x2=true/\x3=false)\/(x1=true/\x2=true/\x3=true/\x4=false)\/(x1=true/\x2=true/\x3=true/\x4=true) by cases x1<;>cases x2<;>cases x3<;>cases x4<;>simp) with rfl|⟨rfl,rfl⟩|⟨rfl,rfl,rfl⟩|⟨rfl,rfl,rfl,rfl⟩|⟨rfl,rfl,rfl,rfl⟩
 all_goals
  go_enter func149,ntmps149
  go_wp2_with (first|(go_at_call_of 55 R;refine Sm (y _) ?_)|(go_at_call_of 55 S;refine Sm (f3 _) ?_)|(go_at_call_of 55 C;refine Sm (j _) ?_)|(go_at_call_of 55 T;refine Sm (h _) ?_));go_ret;exact⟨rfl,by repeat (first|exact Zb _ _|refine Zc ?_ (Zb _ _))⟩
theorem IY(T R S C:Int)(w:V6):
 Va 125 #[.agg #[Vi T,Vi R,Vi S,Vi C]] w (Rt w (Vi (arE T R S C))):=by
 have h:=Zy T 1 1000;have y:=Zy R 1 T;have f3:=Zy S 0 T;have j:=Zy C 1 10
 unfold arE arB
 generalize A1 T 1 1000=x1 at *;generalize A1 R 1 T=x2 at *;generalize A1 S 0 T=x3 at *;generalize A1 C 1 10=x4 at*
 rcases(show x1=false\/(x1=true/\x2=false)\/(x1=true/\x2=true/\x3=false)\/(x1=true/\x2=true/\x3=true/\x4=false)\/(x1=true/\x2=true/\x3=true/\x4=true) by cases x1<;>cases x2<;>cases x3<;>cases x4<;>simp) with rfl|⟨rfl,rfl⟩|⟨rfl,rfl,rfl⟩|⟨rfl,rfl,rfl,rfl⟩|⟨rfl,rfl,rfl,rfl⟩
 all_goals
  go_enter func125,ntmps125
  go_wp2_with (first|(go_at_call_of 22 R;refine Sm (y _) ?_)|(go_at_call_of 22 S;refine Sm (f3 _) ?_)|(go_at_call_of 22 C;refine Sm (j _) ?_)|(go_at_call_of 22 T;refine Sm (h _) ?_)|(go_at_call 4;refine Sm (Ur _ _ _) ?_));go_ret;exact⟨rfl,Zb _ _⟩
end Go.Proofs.YtnepnnkdgejheaaGreatDoor
namespace Go.Proofs.YtnepnnkdgejheaaGreatDoor
open Go.RowKit Tryz
variable {P:Program}{base n size:Nat}{s:Value}{t:TypeId}{xs:List Value}
theorem Zht{w:V6}{ty e:TypeId}{i:TypeInfo}(y:P.underlying t=some (.slice e))(hi:P.info? e=some i)(h:w.ownsRow base e size s n xs)(p:V8)(c:Nat):
 (Builtin.append_ #[t,t] ty #[s,.slice p 0 c]).run P w=.ok s w:=by
 have hc:Src P i.size t (.slice p 0 c) 0 [] w:=by
  cases p with
  |none=>exact Src.ofNil w y c
  |some a=>exact Src.ofSlice w y a 0 c [] (by simp) (by simp) (by simp)
 rcases h.2 with⟨rfl,_⟩|⟨g,cap,ha,rfl,_,_,hn,_⟩
 . simp[Builtin.append_,run_underlying y,sizeOf,typeInfo,hi,hc.len,hc.cells]
 . exact run_append_room_src w t t ty e i y hi g 0 n cap _ 0 [] hc (by omega) (by simp) (by simp)
def Lay(u:V6)(p:V8)(h:List Value):Prop:=h=[]\/∃g off,p=some (Ad g off)/\u.rangeAt g off h
theorem Mf{ops:Array Oper}{rest:List Oper}{o:Oper}{a:Act}{u:V6}{Q:Exit->Act->World->Prop}{e:Nat}{i:TypeInfo}{z:Value}{bytes:Nat}(y w:Operand)(ho:o.op=.call { callee:=.builtin .append,args:=#[y,w],argTypes:=#[t,t] })(H:P.underlying t=some (.slice e))(hi:P.info? e=some i)(X:i.zero=some z)(hc:i.size=size)(G:i.bytes=bytes){p:V8}{m c:Nat}{ys:List Value}(hx:a.eval w=.slice p m c)(ha:u.ownsRow base e size s n xs)(hy:Lay u p ys)(hl:ys.length=m*size)(h1:∀v∈ys,v.oneCell'=true)(R:n+m<=maxLen)(T:(n+m)*bytes<=140737488355328)(hd:base<=u.heap.size)(h:∀s' u',u'.ownsRow base e size s' (n+m) (xs++ys)->u.grownBy u' s.ownBlock->wpList P ops Q rest (a.put o.dst s') u')(Z:0<size:=by decide)(J:z.cells.size=size:=by rfl)(Y:o.guard=none:=by rfl)(hs:a.eval y=s:=by rfl):wpList P ops Q (o::rest) a u:=by
 by_cases h0:m=0
 . subst h0
   have hk:ys=[]:=by simpa using hl
   subst hk;refine wpList_plain Y fun _ hK=>?_
   unfold Oper.wp execOp
   simp only[ho,resolve,invoke,builtin,Sem.run_bind,Sem.run_pure,Result.andThen_ok,List.map_toArray,List.map_cons,List.map_nil,hs,hx,Zht H hi ha p c];exact hK _ _ (h s u (by simpa using ha) (World.grownBy.refl _ _))
 . have hm':0<m:=by omega
   rcases hy with hy|⟨g,off,rfl,K⟩
   . subst hy;have:0<m*size:=Nat.mul_pos hm' Z
     simp at hl
     omega
   . exact wpList_append_lies u Y y w t ho base e i z size bytes H hi X hc G J Z s n xs hs ha ⟨g,off,none⟩ m c ys hx hl (fun j v M=>by rw[Addr.add_lit];exact K j v M) h1 hm' R T hd _ rfl
      (fun N cap w' h2 h3 _ _=>h _ _ h2 h3)
end Go.Proofs.YtnepnnkdgejheaaGreatDoor
namespace Go.Proofs.YtnepnnkdgejheaaGreatDoor
open Go.RowKit Plain Tryz
variable {B C j k n q:Nat}{a:Addr}{b s:Nat->Int}{c l m:Int}{t:Nat->Bool}{u v:Value}{w w' w0:V6}
def JA(m c:Int):Bool:=(decide (0<=m)&&decide (m<=1000000))&&(decide (1<=c)&&decide (c<=10))
theorem JB(h:JA m c=true):(0<=m/\m<=1000000)/\1<=c/\c<=10:=by simp[JA] at h;omega
theorem S2(h:JA m c=false):m<0\/1000000<m\/c<1\/10<c:=by simp[JA] at h;omega
def Ya(m c:Int):Int:=if JA m c then 0 else 1
theorem M4(m c:Int)(w:V6):
 Va 101 #[.agg #[Vi m,Vi c]] w (Rt w (A8 (Ya m c))):=by
 unfold Ya
 by_cases h:JA m c=true
 . rw[if_pos h,Z0];obtain⟨⟨h1,h2⟩,h3,h4⟩:=JB h;clear h
   go_enter func101,ntmps101
   go_wp2;go_ret;exact⟨rfl,Zb _ _⟩
 . rw[if_neg h,Zv (by decide)];have y:=S2 (by simpa using h);clear h
   by_cases g1:m<0
   . clear y
     go_enter func101,ntmps101
     go_wp2;go_ret;exact⟨rfl,Zb _ _⟩
   . by_cases g2:1000000<m
     . clear y
       go_enter func101,ntmps101
       go_wp2;go_ret;exact⟨rfl,Zb _ _⟩
     . by_cases g3:c<1
       . clear y
         go_enter func101,ntmps101
         go_wp2;go_ret;exact⟨rfl,Zb _ _⟩
       . have j:10<c:=by omega
         clear y
         go_enter func101,ntmps101
         go_wp2;go_ret;exact⟨rfl,Zb _ _⟩
theorem G5(m c:Int)(w:V6):
 Va 71 #[.agg #[Vi m,Vi c]] w (Rt w (Vi (Ya m c))):=by
 have h:=Nr m 0 1000000;have y:=Nr c 1 10
 unfold Ya JA
 generalize (decide (0<=m)&&decide (m<=1000000))=x1 at *;generalize (decide (1<=c)&&decide (c<=10))=x2 at*
 rcases(show x1=false\/(x1=true/\x2=false)\/(x1=true/\x2=true) by cases x1<;>cases x2<;>simp) with rfl|⟨rfl,rfl⟩|⟨rfl,rfl⟩
 all_goals
  go_enter func71,ntmps71
  go_wp2_with (first|(go_at_call_of 22 m;refine Sm (h _) ?_)|(go_at_call_of 22 c;refine Sm (y _) ?_)|(go_at_call 4;refine Sm (Ur _ _ _) ?_));go_ret;exact⟨rfl,Zb _ _⟩
theorem JC(x:Int)(w:V6):
 Va 341 #[Vi x] w (Re w (.bool (!Zx x))):=by
 by_cases g1:1000000<x
 . have e:Zx x=false:=by simp[Zx];omega
   rw[e]
   go_enter func341,ntmps341
   go_wp2;go_ret;exact⟨rfl,rfl⟩
 . by_cases g2:x< -1000000
   . have e:Zx x=false:=by simp[Zx];omega
     rw[e]
     go_enter func341,ntmps341
     go_wp2;go_ret;exact⟨by simp,rfl⟩
   . have e:Zx x=true:=by simp[Zx];omega
     rw[e]
     go_enter func341,ntmps341
     go_wp2;go_ret;exact⟨by simp,rfl⟩
def C2(t:Bool)(s v m:Int):Bool:=t&&(decide (v-m<=s)&&decide (s<=v+m))
theorem WH(t:Bool)(s v m:Int)(ha:-2000000<=v)(h:v<=2000000)(hc:0<=m)(hd:m<=1000000)(w:V6):
 Va 318 #[.agg #[.bool t,Vi s],Vi v,Vi m] w (Rt w (.bool (C2 t s v m))):=by
 unfold C2
 cases t
 . go_enter func318,ntmps318
   go_wp2;go_ret;exact⟨rfl,Zb _ _⟩
 . by_cases g1:v-m<=s
   . by_cases g2:s<=v+m
     . rw[decide_eq_true g1,decide_eq_true g2]
       go_enter func318,ntmps318
       go_wp2;go_ret;exact⟨by simp,Zb _ _⟩
     . rw[decide_eq_true g1,decide_eq_false g2]
       go_enter func318,ntmps318
       go_wp2;go_ret;exact⟨by simp,Zb _ _⟩
   . rw[decide_eq_false g1]
     go_enter func318,ntmps318
     go_wp2;go_ret;exact⟨by simp,Zb _ _⟩
def OC(b:Int)(f:Bool):Int:=if f then 0 else if b+1<=10 then b+1 else 10
def S3(b:Int)(f:Bool)(c:Int):Bool:=!f&&decide (c<=OC b f)
theorem Jc9(b c:Int)(f:Bool)(h0:0<=b)(h1:b<=10)(w:V6):
 Va 317 #[Vi b,.bool f,Vi c] w (Re w (.tuple #[Vi (OC b f),.bool (S3 b f c)])):=by
 unfold S3 OC
 cases f
 . by_cases g1:b+1<=10
   . rw[if_neg (by simp),if_pos g1]
     go_enter func317,ntmps317
     go_wp2;go_ret2;exact⟨by first|(simp;done)|(simp;omega),rfl⟩
   . rw[if_neg (by simp),if_neg g1]
     go_enter func317,ntmps317
     go_wp2;go_ret2;exact⟨by first|(simp;done)|(simp;omega),rfl⟩
 . go_enter func317,ntmps317
   go_wp2;go_ret2;exact⟨rfl,rfl⟩
def heB(c s n:Int):Bool:=A1 c 0 3&&A1 n 1 4&&A1 s 0 n
def heE(c s n:Int):Int:=if heB c s n then 0 else 1
theorem S7{s n:Int}(h:heB c s n=true):(0<=c/\c<=3)/\(1<=n/\n<=4)/\0<=s/\s<=n:=by
 simp only[heB,Bool.and_eq_true] at h;exact⟨Zw h.1.1,Zw h.1.2,Zw h.2⟩
theorem S8{s n:Int}(h:heE c s n=0):heB c s n=true:=by
 unfold heE at h;split at h
 . assumption
 . omega
def BT(c s n:Int):Int:=if s=0 then 3 else if c<2 then 2 else if s+2<=n then 2 else if s<n then 1 else 0
def mxL(a b:Int):Int:=if a<b then b else a
theorem Mi(y:Array TypeId)(t:TypeId)(p q:Int)(w:V6):(Builtin.max_ y t #[Vi p,Vi q]).run prog w=.ok (Vi (mxL p q)) w:=by
 unfold mxL
 by_cases h:p<q
 . rw[if_pos h];simp[Builtin.max_,Builtin.max2,h]
 . rw[if_neg h];simp[Builtin.max_,Builtin.max2,h]
theorem DL(c s n:Int)(w:V6):
 Va 285 #[.agg #[Vi c,Vi s,Vi n]] w (Rt w (A8 (heE c s n))):=by
 have h:=Ys c 0 3;have y:=Ys n 1 4;have f3:=Ys s 0 n
 unfold heE heB
 generalize A1 c 0 3=x1 at *;generalize A1 n 1 4=x2 at *;generalize A1 s 0 n=x3 at*
 rcases(show x1=false\/(x1=true/\x2=false)\/(x1=true/\x2=true/\x3=false)\/(x1=true/\x2=true/\x3=true) by cases x1<;>cases x2<;>cases x3<;>simp) with rfl|⟨rfl,rfl⟩|⟨rfl,rfl,rfl⟩|⟨rfl,rfl,rfl⟩
 all_goals
  go_enter func285,ntmps285
  go_wp2_with (first|(go_at_call_of 55 s;refine Sm (f3 _) ?_)|(go_at_call_of 55 n;refine Sm (y _) ?_)|(go_at_call_of 55 c;refine Sm (h _) ?_));go_ret;exact⟨rfl,by repeat (first|exact Zb _ _|refine Zc ?_ Vc)⟩
theorem MO(a b:Int)(w:V6):
 Va 286 #[Vi a,Vi b] w (Re w (Vi (mxL a b))):=by
 have hx:=fun h t p q w=>Mi h t p q w
 go_enter func286,ntmps286
 go_wp2;go_ret;exact⟨rfl,rfl⟩
theorem Jda(c s n:Int)(h:heB c s n=true)(w:V6):
 Va 287 #[.agg #[Vi c,Vi s,Vi n]] w (Rt w (Vi (BT c s n))):=by
 obtain⟨⟨c0,c1⟩,⟨n0,n1⟩,y,j⟩:=S7 h
 unfold BT
 by_cases h1:s=0
 . rw[if_pos h1];subst h1;clear h
   go_enter func287,ntmps287
   go_wp2;go_ret;exact⟨rfl,Zb _ _⟩
 . rw[if_neg h1]
   have h1':(s==0)=false:=by simpa using h1
   by_cases h2:c<2
   . rw[if_pos h2];clear h
     go_enter func287,ntmps287
     go_wp2;go_ret;exact⟨rfl,Zb _ _⟩
   . rw[if_neg h2]
     by_cases h3:s+2<=n
     . rw[if_pos h3];clear h
       have h4:1<n-s:=by omega
       go_enter func287,ntmps287
       go_wp2;go_ret;exact⟨rfl,Zb _ _⟩
     . rw[if_neg h3]
       have h4:¬1<n-s:=by omega
       by_cases h5:s<n
       . rw[if_pos h5];clear h
         have h6:(n-s==1)=true:=by simp;omega
         go_enter func287,ntmps287
         go_wp2;go_ret;exact⟨rfl,Zb _ _⟩
       . rw[if_neg h5];clear h
         have h6:(n-s==1)=false:=by simp;omega
         go_enter func287,ntmps287
         go_wp2;go_ret;exact⟨rfl,Zb _ _⟩
theorem Jdb(c s n:Int)(h:heB c s n=true)(w:V6):
 Va 82 #[.agg #[Vi c,Vi s,Vi n]] w (Rt w (Vi (BT c s n))):=by
 obtain⟨⟨c0,c1⟩,⟨n0,n1⟩,y,j⟩:=S7 h
 unfold BT
 by_cases h1:s=0
 . rw[if_pos h1];subst h1;clear h
   go_enter func82,ntmps82
   go_wp2;go_ret;exact⟨rfl,Zb _ _⟩
 . rw[if_neg h1]
   have h1':(s==0)=false:=by simpa using h1
   by_cases h2:c<2
   . rw[if_pos h2];clear h
     go_enter func82,ntmps82
     go_wp2;go_ret;exact⟨rfl,Zb _ _⟩
   . rw[if_neg h2]
     by_cases h3:s+2<=n
     . rw[if_pos h3];clear h
       go_enter func82,ntmps82
       go_wp2;go_ret;exact⟨rfl,Zb _ _⟩
     . rw[if_neg h3]
       by_cases h5:s<n
       . rw[if_pos h5];clear h
         go_enter func82,ntmps82
         go_wp2;go_ret;exact⟨rfl,Zb _ _⟩
       . rw[if_neg h5];clear h
         go_enter func82,ntmps82
         go_wp2;go_ret;exact⟨rfl,Zb _ _⟩
theorem Nw(x:Int)(w:V6):
 Va 288 #[Vi x] w (Rt w (.bool (A1 x 0 3))):=by
 go_enter func288,ntmps288
 go_wp2_with (go_at_call 55;refine Sm (Ys _ _ _ _) ?_);go_ret;exact⟨rfl,Zb _ _⟩
def neE(a b:Int):Int:=if A1 a 0 3&&A1 b 0 3 then 0 else 1
def neI(a b:Int)(g:Bool):Int:=if A1 a 0 3&&A1 b 0 3 then(if g then b else mxL a b) else 0
theorem Jf6(a b:Int)(g:Bool)(w:V6):
 Va 253 #[Vi a,Vi b,.bool g] w (Rt w (.tuple #[Vi (neI a b g),A8 (neE a b)])):=by
 have y:=Nw a;have j:=Nw b;have f3:=MO a b
 unfold neE neI
 generalize A1 a 0 3=x1 at *;generalize A1 b 0 3=x2 at *;generalize mxL a b=m at*
 cases x1
 . simp only[Bool.false_and,Bool.false_eq_true,if_false]
   go_enter func253,ntmps253
   go_wp2_with (go_at_call 288;refine Sb (y _) fun e ha=>?_);go_ret2;exact⟨rfl,ha⟩
 . cases x2
   . simp only[Bool.and_false,Bool.false_eq_true,if_false]
     go_enter func253,ntmps253
     go_wp2_with (first|(go_at_call_of 288 b;refine Sb (j _) fun H h=>?_)|(go_at_call_of 288 a;refine Sb (y _) fun e ha=>?_));go_ret2;exact⟨rfl,Zc ha h⟩
   . simp only[Bool.and_self,if_true]
     cases g
     . simp only[Bool.false_eq_true,if_false]
       go_enter func253,ntmps253
       go_wp2_with (first|(go_at_call_of 288 b;refine Sb (j _) fun H h=>?_)|(go_at_call_of 288 a;refine Sb (y _) fun e ha=>?_)|(go_at_call 286;refine Sm (f3 _) ?_));go_ret2;exact⟨rfl,Zc ha h⟩
     . simp only[if_true]
       go_enter func253,ntmps253
       go_wp2_with (first|(go_at_call_of 288 b;refine Sb (j _) fun H h=>?_)|(go_at_call_of 288 a;refine Sb (y _) fun e ha=>?_));go_ret2;exact⟨rfl,Zc ha h⟩
theorem M5(x:Int)(w:V6):
 Va 320 #[Vi x] w (Re w (.bool (A1 x 0 1))):=by
 by_cases h0:x=0
 . subst h0
   go_enter func320,ntmps320
   go_wp2;go_ret;exact⟨rfl,rfl⟩
 . have h0':(x==0)=false:=by simpa using h0
   have e:A1 x 0 1=(x==1):=by
    unfold A1
    by_cases h1:x=1
    . subst h1;rfl
    . have h2:(x==1)=false:=by simpa using h1
      rw[h2];simp;omega
   rw[e]
   go_enter func320,ntmps320
   go_wp2;go_ret;exact⟨by simp,rfl⟩
def gb(x:Int):Bool:=decide (0<=x)&&decide (x<=10)
theorem IF{x:Int}(h:gb x=true):0<=x/\x<=10:=by simp[gb] at h;omega
def okU(b:Nat->Int):Nat->Bool
 |0=>true
 |k+1=>okU b k&&gb (b k)
theorem Jdw(hk:k<3)(h:gb (b k)=false):okU b 3=false:=by
 rcases Qth k with rfl|rfl|rfl<;>simp[okU,h]
theorem SZ(h:okU b 3=true):∀k,k<3->0<=b k/\b k<=10:=by
 intro k hk;simp only[okU,Bool.true_and,Bool.and_eq_true] at h
 rcases Qth k with rfl|rfl|rfl
 . exact IF h.1.1
 . exact IF h.1.2
 . exact IF h.2
def Yk(b:Nat->Int)(l:Int):Int:=if okU b 3&&Zx l then 0 else 3
theorem Jsm(b:Nat->Int)(k:Nat)(h:k<3)(w:V6):(Instr.index 99 (.agg #[Vi (b 0),Vi (b 1),Vi (b 2)]) (Vi k)).run prog w=.ok (Vi (b k)) w:=by
 rcases Qth k with rfl|rfl|rfl<;>kernel_rfl
theorem Jsn(o:Nat->Bool)(k:Nat)(h:k<3)(w:V6):(Instr.index 100 (.agg #[.bool (o 0),.bool (o 1),.bool (o 2)]) (Vi k)).run prog w=.ok (.bool (o k)) w:=by
 rcases Qth k with rfl|rfl|rfl<;>kernel_rfl
theorem Joy(t:Nat->Bool)(s:Nat->Int)(k:Nat)(h:k<3)(w:V6):(Instr.index 229 (.agg (Qaw t s)) (Vi k)).run prog w=.ok (.agg #[.bool (t k),Vi (s k)]) w:=by
 rcases Qth k with rfl|rfl|rfl<;>kernel_rfl
theorem Zkk(b:Nat->Int)(o:Nat->Bool)(l:Int)(w:V6):
 Va 309 #[.agg (Qar b o l)] w (Rt w (A8 (Yk b l))):=by
 have HW:Hd (Yk b l=if okU b 3&&Zx l then 0 else 3):=rfl
 go_enter func309,ntmps309
 go_wp2
 go_loop [7] (fun i=>∃k:Nat,k<=3/\i=Vi k/\Hd (okU b k=true)) (fun i=>3-(intOf i).toNat)
 case atStart=>exact⟨0,by omega,rfl,rfl⟩
 case round=>
  obtain⟨k,hk,rfl,ha⟩:=hrel
  by_cases hlt:k<3
  . have hc:=Jsm b k hlt
    by_cases hg:gb (b k)=true
    . have h:Hd (okU b (k+1)=true):=by show(okU b k&&gb (b k))=true;rw[ha.o,hg];rfl
      obtain⟨g0,m⟩:=IF hg;clear hg;generalize b k=z at *;go_wp2
      go_round
      case rel=>exact⟨k+1,by omega,by go_num,h⟩
      case measure=>simp[intOf];omega
    . have h:Hd (okU b 3=false):=Jdw hlt (by simpa using hg)
      have hg':b k<0\/10<b k:=by simp[gb] at hg;omega
      clear hg;generalize b k=z at*
      rcases hg' with g|g
      . go_wp2;go_ret;exact⟨by rw[HW.o,h.o];rfl,Zb _ _⟩
      . go_wp2;go_ret;exact⟨by rw[HW.o,h.o];rfl,Zb _ _⟩
  . have e:k=3:=by omega
    subst e;have y:=JC l
    have j:Hd (Yk b l=if Zx l then 0 else 3):=by show Yk b l=_;rw[HW.o,ha.o,Bool.true_and]
    generalize Zx l=x at*
    cases x
    . go_wp2_with (go_at_call 341;refine Sm (y _) ?_);go_ret;exact⟨by rw[j.o];rfl,Zb _ _⟩
    . go_wp2_with (go_at_call 341;refine Sm (y _) ?_);go_ret;exact⟨by rw[j.o];rfl,Zb _ _⟩
def Zt(o:Nat->Bool):Nat->Int
 |0=>0
 |k+1=>Zt o k+if o k then 0 else 1
theorem Nj(o:Nat->Bool):∀k:Nat,0<=Zt o k/\Zt o k<=k
 |0=>by simp[Zt]
 |k+1=>by have:=Nj o k;simp only[Zt];split<;>omega
theorem T2(b:Nat->Int)(o:Nat->Bool)(l:Int)(w:V6):
 Va 166 #[.agg (Qar b o l)] w (Rt w (Vi (Zt o 3))):=by
 go_enter func166,ntmps166
 go_wp2
 go_loop [3,8] (fun n i=>∃k:Nat,k<=3/\i=Vi k/\n=Vi (Zt o k)) (fun n i=>3-(intOf i).toNat)
 case atStart=>exact⟨0,by omega,rfl,rfl⟩
 case round=>
  obtain⟨k,hk,rfl,rfl⟩:=hrel
  by_cases hlt:k<3
  . have ha:=Jsn o k hlt;have y:=Nj o k;have h:Hd (Zt o (k+1)=Zt o k+if o k then 0 else 1):=rfl;generalize Zt o k=n at *;generalize o k=x at*
    cases x
    . go_wp2
      go_round
      case rel=>exact⟨k+1,by omega,by go_num,by rw[h.o];rfl⟩
      case measure=>simp[intOf];omega
    . go_wp2
      go_round
      case rel=>exact⟨k+1,by omega,by go_num,by rw[h.o];simp⟩
      case measure=>simp[intOf];omega
  . have e:k=3:=by omega
    subst e;go_wp2;go_ret;exact⟨rfl,Zb _ _⟩
theorem Zhn(b:Nat->Int)(o:Nat->Bool)(l:Int)(w:V6):
 Va 78 #[.agg (Qar b o l)] w (Rt w (Vi (Zt o 3))):=by
 have hc:∀k,k<3->(w.alloc (.cells (Qar b o l) 102)).cell? (Ad w.heap.size (3+k))=some (.bool (o k)):=by
  intro k hk
  rcases Qth k with rfl|rfl|rfl<;>simp[go_sem]
 have y:Hd _:=hc;clear hc
 go_enter func78,ntmps78
 go_wp2
 go_loop [3,4] (fun n i=>∃k:Nat,k<=3/\i=Vi k/\n=Vi (3-(k:Int)+Zt o k)) (fun n i=>3-(intOf i).toNat)
 case atStart=>exact⟨0,by omega,rfl,by simp[Zt]⟩
 case round=>
  obtain⟨k,hk,rfl,rfl⟩:=hrel
  by_cases hlt:k<3
  . have ha:=y.o k hlt;have j:=Nj o k;have h:Hd (Zt o (k+1)=Zt o k+if o k then 0 else 1):=rfl;generalize Zt o k=n at *;generalize o k=x at*
    cases x
    . go_wp2
      go_round
      case rel=>exact⟨k+1,by omega,by go_num,by rw[h.o];simp only[Bool.false_eq_true,if_false];congr 1;omega⟩
      case measure=>simp[intOf];omega
    . go_wp2
      go_round
      case rel=>exact⟨k+1,by omega,by go_num,by rw[h.o];simp only[if_true];congr 1;omega⟩
      case measure=>simp[intOf];omega
  . have e:k=3:=by omega
    subst e;go_wp2;go_ret;exact⟨by simp,Zb _ _⟩
def A5(w:V6)(B:Nat)(b:Nat->Int)(o:Nat->Bool)(l:Int):Prop:=
 V2 w B 0 (b 0)/\V2 w B 1 (b 1)/\V2 w B 2 (b 2)/\Kc w B 3 (.bool (o 0))/\Kc w B 4 (.bool (o 1))/\Kc w B 5 (.bool (o 2))/\V2 w B 6 l
def AF(w:V6)(B:Nat)(m c:Int):Prop:=V2 w B 0 m/\V2 w B 1 c
def AU(w:V6)(B:Nat)(t:Nat->Bool)(s:Nat->Int):Prop:=
 Kc w B 0 (.bool (t 0))/\V2 w B 1 (s 0)/\Kc w B 2 (.bool (t 1))/\V2 w B 3 (s 1)/\Kc w B 4 (.bool (t 2))/\V2 w B 5 (s 2)
theorem A5.lq{b o l}(h:A5 w B b o l)(y:Bw w w'):A5 w' B b o l:=by
 obtain⟨h0,h1,h2,h3,h4,h5,h6⟩:=h;exact⟨cell_later y h0,cell_later y h1,cell_later y h2,cell_later y h3,cell_later y h4,cell_later y h5,cell_later y h6⟩
theorem AF.lq{m c}(h:AF w B m c)(y:Bw w w'):AF w' B m c:=⟨cell_later y h.1,cell_later y h.2⟩
theorem AU.lq{t s}(h:AU w B t s)(y:Bw w w'):AU w' B t s:=by
 obtain⟨h0,h1,h2,h3,h4,h5⟩:=h;exact⟨cell_later y h0,cell_later y h1,cell_later y h2,cell_later y h3,cell_later y h4,cell_later y h5⟩
def FC(h w:V6)(B:Nat)(b:Nat->Int)(o:Nat->Bool)(l m c:Int)(t:Nat->Bool)(s:Nat->Int):Prop:=
 A5 w B b o l/\AF w (B+1) m c/\AU w (B+1+1) t s/\Below B h w
theorem FC.lq{b o l m c t s}(h:FC w0 w B b o l m c t s)(j:B<=w.heap.size)(y:Bw w w'):FC w0 w' B b o l m c t s:=
 ⟨h.1.lq y,h.2.1.lq y,h.2.2.1.lq y,h.2.2.2.trans (y.mono j)⟩
theorem FC.le{b o l m c t s}(h:FC w0 w w0.heap.size b o l m c t s):w0.heap.size<=w.heap.size:=h.2.2.2.size
theorem T3(w:V6)(b:Nat->Int)(o:Nat->Bool)(l m c:Int)(t:Nat->Bool)(s:Nat->Int):
 FC w (((w.alloc (.cells (Qar b o l) 102)).alloc (.cells #[Vi m,Vi c] 151)).alloc (.cells (Qaw t s) 229)) w.heap.size b o l m c t s:=by
 refine⟨?_,?_,?_,?_⟩
 . refine⟨?_,?_,?_,?_,?_,?_,?_⟩<;>simp[go_sem,World.cell?_alloc_past]
 . refine⟨?_,?_⟩<;>simp[go_sem,World.cell?_alloc_past]
 . refine⟨?_,?_,?_,?_,?_,?_⟩<;>simp[go_sem]
 . exact Zc (Zc Vc Vc) Vc
def Xi(t:Nat->Bool)(s:Nat->Int):Nat->Bool
 |0=>true
 |k+1=>Xi t s k&&(!t k||Zx (s k))
theorem T4(hk:k<3)(h1:t k=true)(h2:Zx (s k)=false):Xi t s 3=false:=by
 rcases Qth k with rfl|rfl|rfl<;>simp[Xi,h1,h2]
theorem XK(h:Xi t s 3=true):∀k,k<3->t k=true->-1000000<=s k/\s k<=1000000:=by
 intro k hk y;simp only[Xi,Bool.true_and,Bool.and_eq_true,Bool.or_eq_true,Bool.not_eq_true'] at h
 rcases Qth k with rfl|rfl|rfl
 . exact U8 (h.1.1.resolve_left (by simp[y]))
 . exact U8 (h.1.2.resolve_left (by simp[y]))
 . exact U8 (h.2.resolve_left (by simp[y]))
def Z9(b:Nat->Int)(l m c:Int)(t:Nat->Bool)(s:Nat->Int):Int:=
 if Ya m c=0 then(if Yk b l=0 then(if Xi t s 3 then 0 else 1) else Yk b l) else Ya m c
theorem T5(h:Ya m c≠0):Ya m c=1:=by unfold Ya at *;split<;>simp_all
theorem T6(h:Yk b l≠0):Yk b l=3:=by unfold Yk at *;split<;>simp_all
theorem LR(b:Nat->Int)(o:Nat->Bool)(l m c:Int)(t:Nat->Bool)(s:Nat->Int)(w:V6):
 Va 314 #[.agg (Qar b o l),.agg #[Vi m,Vi c],.agg (Qaw t s)] w
  (Rt w (A8 (Z9 b l m c t s))):=by
 have Y:=M4 m c;have hk:=Zkk b o l;have h:=T3 w b o l m c t s;have h:=Za h
 by_cases j:Ya m c=0
 . rw[j,Z0] at Y
   by_cases H:Yk b l=0
   . rw[H,Z0] at hk
     have Z:Hd (Z9 b l m c t s=if Xi t s 3 then 0 else 1):=by show Z9 b l m c t s=_;rw[Z9,if_pos j,if_pos H]
     clear j H
     go_enter func314,ntmps314
     go_wp2_with (first
      |(go_at_call 101;refine Sb (Y _) fun G ha=>?_;have h:=h.o.lq h.o.le ha;obtain⟨q0,M,N,P,q4,D,C⟩:=h.1;have h:=Za h;clear ha)
      |(go_at_call 309;refine Sb (hk _) fun E hc=>?_;have h:=h.o.lq h.o.le hc;obtain⟨I,L,O,U,A,B⟩:=h.2.2.1;have h:=Za h;clear hc))
     go_loopw [22] (fun i wr=>∃k:Nat,k<=3/\i=Vi k/\Hd (Xi t s k=true)/\Bw w wr) (fun i _=>3-(intOf i).toNat)
     case atStart=>exact⟨0,by omega,rfl,rfl,h.o.2.2.2⟩
     case round=>
      clear h;obtain⟨k,W,rfl,R,T⟩:=hrel;have X:=Za T;clear T
      by_cases hlt:k<3
      . have F:=Joy t s k hlt;have hd:=JC (s k)
        by_cases hg:(!t k||Zx (s k))=true
        . have Q:Hd (Xi t s (k+1)=true):=by show(Xi t s k&&(!t k||Zx (s k)))=true;rw[R.o,hg];rfl
          generalize s k=z at *;generalize t k=y at *;generalize Zx z=x at*
          cases y
          . go_wp2;go_roundw
            case rel=>exact⟨k+1,by omega,by go_num,Q,Zc X.o Vc⟩
            case measure=>simp[intOf];omega
          . simp only[Bool.not_true,Bool.false_or] at hg;subst hg
            go_wp2_with (go_at_call 341;refine Sm (hd _) ?_);go_roundw
            case rel=>exact⟨k+1,by omega,by go_num,Q,Zc X.o Vc⟩
            case measure=>simp[intOf];omega
        . simp only[Bool.or_eq_true,Bool.not_eq_true',not_or,Bool.not_eq_false,Bool.not_eq_true] at hg;have Q:Hd (Xi t s 3=false):=T4 hlt hg.1 hg.2;obtain⟨J,K⟩:=hg;rw[K] at hd;rw[J] at F;clear J K;generalize s k=z at*
          go_wp2_with (go_at_call 341;refine Sm (hd _) ?_);go_ret;exact⟨by rw[Z.o,Q.o];rfl,Zc X.o Vc⟩
      . have e:k=3:=by omega
        subst e;go_wp2;go_ret;exact⟨by rw[Z.o,R.o];rfl,X.o⟩
   . have Z:Hd (Z9 b l m c t s=3):=by show Z9 b l m c t s=_;rw[Z9,if_pos j,if_neg H,T6 H]
     rw[T6 H,Zv (by decide)] at hk;clear j H
     go_enter func314,ntmps314
     go_wp2_with (first
      |(go_at_call 101;refine Sb (Y _) fun G ha=>?_;have h:=h.o.lq h.o.le ha;obtain⟨q0,M,N,P,q4,D,C⟩:=h.1;have h:=Za h;clear ha)
      |(go_at_call 309;refine Sb (hk _) fun E hc=>?_;have h:=h.o.lq h.o.le hc;have h:=Za h;clear hc))
     go_ret;exact⟨by rw[Z.o];rfl,h.o.2.2.2⟩
 . have Z:Hd (Z9 b l m c t s=1):=by show Z9 b l m c t s=_;rw[Z9,if_neg j,T5 j]
   rw[T5 j,Zv (by decide)] at Y;clear j
   go_enter func314,ntmps314
   go_wp2_with (first
    |(go_at_call 101;refine Sb (Y _) fun G ha=>?_;have h:=h.o.lq h.o.le ha;have h:=Za h;clear ha))
   go_ret;exact⟨by rw[Z.o];rfl,h.o.2.2.2⟩
def BV(t o:Nat->Bool)(k:Nat):Bool:=t k&&!o k
def Zz(t o:Nat->Bool):Nat->Int
 |0=>0
 |k+1=>if BV t o k then Zz t o k+1 else Zz t o k
def AL(t o:Nat->Bool)(s:Nat->Int):Nat->Int
 |0=>0
 |k+1=>if BV t o k then AL t o s k+s k else AL t o s k
def mnI(x y:Int):Int:=if x<=y then x else y
def mxI(x y:Int):Int:=if x<=y then y else x
def Yz(t o:Nat->Bool)(s:Nat->Int):Nat->Int
 |0=>2147483647
 |k+1=>if BV t o k then mnI (Yz t o s k) (s k) else Yz t o s k
def Y3(t o:Nat->Bool)(s:Nat->Int):Nat->Int
 |0=>-2147483647
 |k+1=>if BV t o k then mxI (Y3 t o s k) (s k) else Y3 t o s k
def AO(t o:Nat->Bool)(s:Nat->Int)(l:Int):Int:=
 if Zz t o 3=1 then AL t o s 3 else if Zz t o 3=2 then AL t o s 3/2 else if Zz t o 3=3 then AL t o s 3-Yz t o s 3-Y3 t o s 3 else l
theorem JY(t o:Nat->Bool):∀k:Nat,0<=Zz t o k/\Zz t o k<=k
 |0=>by simp[Zz]
 |k+1=>by have:=JY t o k;simp only[Zz];split<;>omega
def Fit(t o:Nat->Bool)(s:Nat->Int):Prop:=∀k,k<3->BV t o k=true->-1000000<=s k/\s k<=1000000
theorem XL{o:Nat->Bool}(h:Xi t s 3=true):Fit t o s:=by
 intro k hk hc;exact XK h k hk (by simp[BV] at hc;exact hc.1)
theorem OW{o:Nat->Bool}(h:Fit t o s):∀k:Nat,k<=3->-1000000*(k:Int)<=AL t o s k/\AL t o s k<=1000000*(k:Int)
 |0,_=>by simp[AL]
 |k+1,hk=>by
  have y:=OW h k (by omega);simp only[AL]
  split
  . have:=h k (by omega) (by assumption);omega
  . omega
theorem MZ{o:Nat->Bool}(h:Fit t o s):∀k:Nat,k<=3->-1000000<=Yz t o s k/\Yz t o s k<=2147483647
 |0,_=>by simp[Yz]
 |k+1,hk=>by
  have y:=MZ h k (by omega);simp only[Yz,mnI]
  split
  . have:=h k (by omega) (by assumption);split<;>omega
  . omega
theorem T7{o:Nat->Bool}(h:Fit t o s):∀k:Nat,k<=3->-2147483647<=Y3 t o s k/\Y3 t o s k<=1000000
 |0,_=>by simp[Y3]
 |k+1,hk=>by
  have y:=T7 h k (by omega);simp only[Y3,mxI]
  split
  . have:=h k (by omega) (by assumption);split<;>omega
  . omega
theorem XM(x y:Int):mnI x y<=x/\mnI x y<=y/\(mnI x y=x\/mnI x y=y):=by unfold mnI;split<;>omega
theorem XN(x y:Int):x<=mxI x y/\y<=mxI x y/\(mxI x y=x\/mxI x y=y):=by unfold mxI;split<;>omega
theorem Joz(x y z:Int)(hx:-1000000<=x/\x<=1000000)(hy:-1000000<=y/\y<=1000000)(h:-1000000<=z/\z<=1000000):
 -1000000<=x+y+z-mnI (mnI (mnI 2147483647 x) y) z-mxI (mxI (mxI (-2147483647) x) y) z/\x+y+z-mnI (mnI (mnI 2147483647 x) y) z-mxI (mxI (mxI (-2147483647) x) y) z<=1000000:=by
 have j:=XM 2147483647 x;have m:=XM (mnI 2147483647 x) y;have e:=XM (mnI (mnI 2147483647 x) y) z;have w:=XN (-2147483647) x;have H:=XN (mxI (-2147483647) x) y;have f3:=XN (mxI (mxI (-2147483647) x) y) z;generalize mnI (mnI (mnI 2147483647 x) y) z=p3 at *;generalize mnI (mnI 2147483647 x) y=p2 at *;generalize mnI 2147483647 x=p1 at *;generalize mxI (mxI (mxI (-2147483647) x) y) z=q3 at *;generalize mxI (mxI (-2147483647) x) y=q2 at *;generalize mxI (-2147483647) x=q1 at*
 omega
theorem OX{o:Nat->Bool}(h:Fit t o s)(h0:-1000000<=l)(h1:l<=1000000):-1000000<=AO t o s l/\AO t o s l<=1000000:=by
 have y:=h 0 (by omega);have j:=h 1 (by omega);have m:=h 2 (by omega)
 cases c0:BV t o 0<;>cases c1:BV t o 1<;>cases c2:BV t o 2<;>(try replace y:=y c0)<;>(try replace j:=j c1)<;>(try replace m:=m c2)
 case true.true.true=>
  have:=Joz (s 0) (s 1) (s 2) y j m
  simpa[AO,Zz,AL,Yz,Y3,c0,c1,c2] using this
 all_goals
  simp[AO,Zz,AL,c0,c1,c2]
  omega
def nbI(t o:Nat->Bool)(s b:Nat->Int)(v m:Int)(k:Nat):Int:=if o k then b k else OC (b k) (C2 (t k) (s k) v m)
def noB(t o:Nat->Bool)(s b:Nat->Int)(v m c:Int)(k:Nat):Bool:=if o k then true else S3 (b k) (C2 (t k) (s k) v m) c
def C5(k:Nat)(f g:Nat->Int)(j:Nat):Int:=if j<k then f j else g j
def BW(k:Nat)(f g:Nat->Bool)(j:Nat):Bool:=if j<k then f j else g j
def BX(g:Nat->Int)(k:Nat)(v:Int)(j:Nat):Int:=if j=k then v else g j
def BY(g:Nat->Bool)(k:Nat)(v:Bool)(j:Nat):Bool:=if j=k then v else g j
theorem Uy(k:Nat)(f g:Nat->Int):C5 (k+1) f g=BX (C5 k f g) k (f k):=by
 funext j;simp only[C5,BX];by_cases h1:j=k
 . subst h1;simp
 . by_cases h2:j<k
   . rw[if_pos (by omega),if_neg h1,if_pos h2]
   . rw[if_neg (by omega),if_neg h1,if_neg h2]
theorem Uz(k:Nat)(f g:Nat->Bool):BW (k+1) f g=BY (BW k f g) k (f k):=by
 funext j;simp only[BW,BY];by_cases h1:j=k
 . subst h1;simp
 . by_cases h2:j<k
   . rw[if_pos (by omega),if_neg h1,if_pos h2]
   . rw[if_neg (by omega),if_neg h1,if_neg h2]
theorem IG(k:Nat)(f g:Nat->Int):C5 k f g k=g k:=by unfold C5;rw[if_neg (Nat.lt_irrefl _)]
theorem DW(k:Nat)(f g:Nat->Bool):BW k f g k=g k:=by unfold BW;rw[if_neg (Nat.lt_irrefl _)]
theorem NA(f g:Nat->Int):C5 0 f g=g:=by funext j;unfold C5;rw[if_neg (Nat.not_lt_zero _)]
theorem NC(f g:Nat->Bool):BW 0 f g=g:=by funext j;unfold BW;rw[if_neg (Nat.not_lt_zero _)]
theorem ND(g:Nat->Int)(k:Nat):BX g k (g k)=g:=by funext j;unfold BX;split<;>simp_all
theorem FD(g:Nat->Bool)(k:Nat):BY g k (g k)=g:=by funext j;unfold BY;split<;>simp_all
def Frz(w:V6)(B n:Nat):Prop:=(∀j,j<n->w.frozen? (Ad B j)=false)/\B<w.heap.size
theorem Frz.lq(h:Frz w B n)(y:Bw w w'):Frz w' B n:=
 ⟨fun j m=>(y.frozen (p:=⟨B,j,none⟩) h.2).trans (h.1 j m),Nat.lt_of_lt_of_le h.2 y.size⟩
theorem Frz.set(h:Frz w B n):Frz (w.setCell (Ad C q) v) B n:=
 ⟨fun j y=>by simpa[go_sem] using h.1 j y,by simpa[go_sem] using h.2⟩
theorem A5.bad{b o l}(h:A5 w B b o l)(k:Nat)(hk:k<3):V2 w B k (b k):=by
 obtain⟨h0,h1,h2,h3,h4,h5,h6⟩:=h
 rcases Qth k with rfl|rfl|rfl<;>assumption
theorem A5.o{b o l}(h:A5 w B b o l)(k:Nat)(hk:k<3):Kc w B (3+k) (.bool (o k)):=by
 obtain⟨h0,h1,h2,h3,h4,h5,h6⟩:=h
 rcases Qth k with rfl|rfl|rfl<;>assumption
theorem AU.there{t s}(h:AU w B t s)(k:Nat)(hk:k<3):Kc w B (k*2) (.bool (t k)):=by
 obtain⟨h0,h1,h2,h3,h4,h5⟩:=h
 rcases Qth k with rfl|rfl|rfl<;>assumption
theorem AU.is{t s}(h:AU w B t s)(k:Nat)(hk:k<3):V2 w B (k*2+1) (s k):=by
 obtain⟨h0,h1,h2,h3,h4,h5⟩:=h
 rcases Qth k with rfl|rfl|rfl<;>assumption
theorem Zn{c:Addr}(h:w.cell? a=some u)(hc:c≠a):(w.setCell c v).cell? a=some u:=(World.cell?_setCell_other _ _ _ _ hc).trans h
theorem Wo(h:w.cell? a=some u):(w.setCell a v).cell? a=some v:=by simp[go_sem,h]
theorem Y4(hc:C≠B):(⟨C,q,none⟩:Addr)≠⟨B,j,none⟩:=fun e=>hc (congrArg Addr.block e)
theorem Zu(hc:q≠j:=by decide):(⟨B,q,none⟩:Addr)≠⟨B,j,none⟩:=fun e=>hc (congrArg Addr.off e)
theorem AF.set{m c v}(h:AF w B m c)(hc:C≠B):AF (w.setCell (Ad C q) v) B m c:=
 ⟨Zn h.1 (Y4 hc),Zn h.2 (Y4 hc)⟩
theorem AU.set{t s v}(h:AU w B t s)(hc:C≠B):AU (w.setCell (Ad C q) v) B t s:=by
 obtain⟨h0,h1,h2,h3,h4,h5⟩:=h;exact⟨Zn h0 (Y4 hc),Zn h1 (Y4 hc),Zn h2 (Y4 hc),Zn h3 (Y4 hc),Zn h4 (Y4 hc),Zn h5 (Y4 hc)⟩
theorem A5.set{b o l v}(h:A5 w B b o l)(hc:C≠B):A5 (w.setCell (Ad C q) v) B b o l:=by
 obtain⟨h0,h1,h2,h3,h4,h5,h6⟩:=h;exact⟨Zn h0 (Y4 hc),Zn h1 (Y4 hc),Zn h2 (Y4 hc),Zn h3 (Y4 hc),Zn h4 (Y4 hc),Zn h5 (Y4 hc),Zn h6 (Y4 hc)⟩
theorem A5.setBad0{b o l}(h:A5 w B b o l)(v:Int):A5 (w.setCell (Ad B 0) (Vi v)) B (BX b 0 v) o l:=by
 obtain⟨h0,h1,h2,h3,h4,h5,h6⟩:=h
 unfold A5
 rw[show BX b 0 v 0=v from if_pos rfl,show BX b 0 v 1=b 1 from if_neg (by decide),show BX b 0 v 2=b 2 from if_neg (by decide)];exact⟨Wo h0,Zn h1 (Zu),Zn h2 (Zu),Zn h3 (Zu),Zn h4 (Zu),Zn h5 (Zu),Zn h6 (Zu)⟩
theorem A5.setOut0{b o l}(h:A5 w B b o l)(v:Bool):A5 (w.setCell (Ad B 3) (.bool v)) B b (BY o 0 v) l:=by
 obtain⟨h0,h1,h2,h3,h4,h5,h6⟩:=h
 unfold A5
 rw[show BY o 0 v 0=v from if_pos rfl,show BY o 0 v 1=o 1 from if_neg (by decide),show BY o 0 v 2=o 2 from if_neg (by decide)];exact⟨Zn h0 (Zu),Zn h1 (Zu),Zn h2 (Zu),Wo h3,Zn h4 (Zu),Zn h5 (Zu),Zn h6 (Zu)⟩
theorem A5.setBad1{b o l}(h:A5 w B b o l)(v:Int):A5 (w.setCell (Ad B 1) (Vi v)) B (BX b 1 v) o l:=by
 obtain⟨h0,h1,h2,h3,h4,h5,h6⟩:=h
 unfold A5
 rw[show BX b 1 v 0=b 0 from if_neg (by decide),show BX b 1 v 1=v from if_pos rfl,show BX b 1 v 2=b 2 from if_neg (by decide)];exact⟨Zn h0 (Zu),Wo h1,Zn h2 (Zu),Zn h3 (Zu),Zn h4 (Zu),Zn h5 (Zu),Zn h6 (Zu)⟩
theorem A5.setOut1{b o l}(h:A5 w B b o l)(v:Bool):A5 (w.setCell (Ad B 4) (.bool v)) B b (BY o 1 v) l:=by
 obtain⟨h0,h1,h2,h3,h4,h5,h6⟩:=h
 unfold A5
 rw[show BY o 1 v 0=o 0 from if_neg (by decide),show BY o 1 v 1=v from if_pos rfl,show BY o 1 v 2=o 2 from if_neg (by decide)];exact⟨Zn h0 (Zu),Zn h1 (Zu),Zn h2 (Zu),Zn h3 (Zu),Wo h4,Zn h5 (Zu),Zn h6 (Zu)⟩
theorem A5.setBad2{b o l}(h:A5 w B b o l)(v:Int):A5 (w.setCell (Ad B 2) (Vi v)) B (BX b 2 v) o l:=by
 obtain⟨h0,h1,h2,h3,h4,h5,h6⟩:=h
 unfold A5
 rw[show BX b 2 v 0=b 0 from if_neg (by decide),show BX b 2 v 1=b 1 from if_neg (by decide),show BX b 2 v 2=v from if_pos rfl];exact⟨Zn h0 (Zu),Zn h1 (Zu),Wo h2,Zn h3 (Zu),Zn h4 (Zu),Zn h5 (Zu),Zn h6 (Zu)⟩
theorem A5.setOut2{b o l}(h:A5 w B b o l)(v:Bool):A5 (w.setCell (Ad B 5) (.bool v)) B b (BY o 2 v) l:=by
 obtain⟨h0,h1,h2,h3,h4,h5,h6⟩:=h
 unfold A5
 rw[show BY o 2 v 0=o 0 from if_neg (by decide),show BY o 2 v 1=o 1 from if_neg (by decide),show BY o 2 v 2=v from if_pos rfl];exact⟨Zn h0 (Zu),Zn h1 (Zu),Zn h2 (Zu),Zn h3 (Zu),Zn h4 (Zu),Wo h5,Zn h6 (Zu)⟩
theorem A5.setBad{b o l}(h:A5 w B b o l)(k:Nat)(hk:k<3)(v:Int):A5 (w.setCell (Ad B k) (Vi v)) B (BX b k v) o l:=by
 rcases Qth k with rfl|rfl|rfl
 . exact h.setBad0 v
 . exact h.setBad1 v
 . exact h.setBad2 v
theorem A5.setOut{b o l}(h:A5 w B b o l)(k:Nat)(hk:k<3)(v:Bool):A5 (w.setCell (Ad B (3+k)) (.bool v)) B b (BY o k v) l:=by
 rcases Qth k with rfl|rfl|rfl
 . exact h.setOut0 v
 . exact h.setOut1 v
 . exact h.setOut2 v
theorem A5.setLast{b o l}(h:A5 w B b o l)(v:Int):A5 (w.setCell (Ad B 6) (Vi v)) B b o v:=by
 obtain⟨h0,h1,h2,h3,h4,h5,h6⟩:=h;exact⟨Zn h0 (Zu),Zn h1 (Zu),Zn h2 (Zu),Zn h3 (Zu),Zn h4 (Zu),Zn h5 (Zu),Wo h6⟩
def zI(_:Nat):Int:=0
def zB(_:Nat):Bool:=false
def AZ(h w:V6)(b:Nat->Int)(o:Nat->Bool)(l m c:Int)(t:Nat->Bool)(s:Nat->Int):Prop:=
 (A5 w h.heap.size b o l/\Frz w h.heap.size 7)/\AF w (h.heap.size+1) m c/\AU w (h.heap.size+1+1) t s/\(A5 w (h.heap.size+1+1+1) zI zB 0/\Frz w (h.heap.size+1+1+1) 7)/\(AF w (h.heap.size+1+1+1+1) 0 0/\Frz w (h.heap.size+1+1+1+1) 2)/\Bw h w
theorem AZ.lq{b o l m c t s}(h:AZ w0 w b o l m c t s)(y:Bw w w'):AZ w0 w' b o l m c t s:=by
 obtain⟨⟨h1,h2⟩,h3,h4,⟨h5,h6⟩,⟨h7,j⟩,e⟩:=h;exact⟨⟨h1.lq y,h2.lq y⟩,h3.lq y,h4.lq y,⟨h5.lq y,h6.lq y⟩,⟨h7.lq y,j.lq y⟩,Zc e y⟩
theorem AZ.lt{b o l m c t s}(h:AZ w0 w b o l m c t s):w0.heap.size+1+1+1+1<w.heap.size:=h.2.2.2.2.1.2.2
theorem AZ.setBad{b o l m c t s}(h:AZ w0 w b o l m c t s)(k:Nat)(hk:k<3)(v:Int):AZ w0 (w.setCell (Ad w0.heap.size k) (Vi v)) (BX b k v) o l m c t s:=by
 obtain⟨⟨h1,h2⟩,h3,h4,⟨h5,h6⟩,⟨h7,y⟩,j⟩:=h;exact⟨⟨h1.setBad k hk v,h2.set⟩,h3.set (by omega),h4.set (by omega),⟨h5.set (by omega),h6.set⟩,⟨h7.set (by omega),y.set⟩,j.setCell (Nat.le_refl _) _⟩
theorem AZ.setOut{b o l m c t s}(h:AZ w0 w b o l m c t s)(k:Nat)(hk:k<3)(v:Bool):AZ w0 (w.setCell (Ad w0.heap.size (3+k)) (.bool v)) b (BY o k v) l m c t s:=by
 obtain⟨⟨h1,h2⟩,h3,h4,⟨h5,h6⟩,⟨h7,y⟩,j⟩:=h;exact⟨⟨h1.setOut k hk v,h2.set⟩,h3.set (by omega),h4.set (by omega),⟨h5.set (by omega),h6.set⟩,⟨h7.set (by omega),y.set⟩,j.setCell (Nat.le_refl _) _⟩
theorem AZ.setLast{b o l m c t s}(h:AZ w0 w b o l m c t s)(v:Int):AZ w0 (w.setCell (Ad w0.heap.size 6) (Vi v)) b o v m c t s:=by
 obtain⟨⟨h1,h2⟩,h3,h4,⟨h5,h6⟩,⟨h7,y⟩,j⟩:=h;exact⟨⟨h1.setLast v,h2.set⟩,h3.set (by omega),h4.set (by omega),⟨h5.set (by omega),h6.set⟩,⟨h7.set (by omega),y.set⟩,j.setCell (Nat.le_refl _) _⟩
theorem AZ.setElse{b o l m c t s}(h:AZ w0 w b o l m c t s)(e:w0.heap.size+1+1+1+1<C)(v:Value):AZ w0 (w.setCell (Ad C q) v) b o l m c t s:=by
 obtain⟨⟨h1,h2⟩,h3,h4,⟨h5,h6⟩,⟨h7,y⟩,j⟩:=h;exact⟨⟨h1.set (by omega),h2.set⟩,h3.set (by omega),h4.set (by omega),⟨h5.set (by omega),h6.set⟩,⟨h7.set (by omega),y.set⟩,j.setCell (by simp;omega) _⟩
theorem Frz.new{cs:Array Value}{T:TypeId}:Frz (w.alloc (.cells cs T)) w.heap.size n:=
 ⟨fun j _=>by simp[go_sem],by simp[go_sem]⟩
theorem Jha(w:V6)(b:Nat->Int)(o:Nat->Bool)(l m c:Int)(t:Nat->Bool)(s:Nat->Int):
 AZ w (((((w.alloc (.cells (Qar b o l) 102)).alloc (.cells #[Vi m,Vi c] 151)).alloc (.cells (Qaw t s) 229)).alloc (.cells Qay 102)).alloc (.cells #[Vi 0,Vi 0] 231)) b o l m c t s:=by
 have A:=T3 w b o l m c t s;have e:Frz (w.alloc (.cells (Qar b o l) 102)) w.heap.size 7:=Frz.new;have H:=(e.lq (Zb _ (.cells #[Vi m,Vi c] 151))).lq (Zb _ (.cells (Qaw t s) 229))
 have y:((((w.alloc (.cells (Qar b o l) 102)).alloc (.cells #[Vi m,Vi c] 151)).alloc (.cells (Qaw t s) 229))).heap.size=w.heap.size+1+1+1:=by simp[go_sem]
 generalize ((((w.alloc (.cells (Qar b o l) 102)).alloc (.cells #[Vi m,Vi c] 151)).alloc (.cells (Qaw t s) 229)))=w3 at*
 have Z:Frz (w3.alloc (.cells Qay 102)) (w.heap.size+1+1+1) 7:=by rw[<-y];exact Frz.new
 have B3:A5 (w3.alloc (.cells Qay 102)) (w.heap.size+1+1+1) zI zB 0:=by
  rw[<-y]
  refine⟨?_,?_,?_,?_,?_,?_,?_⟩<;>simp[go_sem,zI,zB]
 have j:=A.lq A.le (Zb w3 (.cells Qay 102));have F23:=H.lq (Zb w3 (.cells Qay 102))
 have ha:(w3.alloc (.cells Qay 102)).heap.size=w.heap.size+1+1+1+1:=by simp[go_sem,y]
 generalize (w3.alloc (.cells Qay 102))=w4 at *;have L:=Zb w4 (.cells #[Vi 0,Vi 0] 231);have h:=j.lq j.le L;refine⟨⟨h.1,F23.lq L⟩,h.2.1,h.2.2.1,⟨B3.lq L,Z.lq L⟩,⟨?_,?_⟩,h.2.2.2⟩
 . rw[<-ha];exact⟨by simp[go_sem],by simp[go_sem]⟩
 . rw[<-ha];exact Frz.new
theorem AF.setBoth{m c}(h:AF w B m c)(p q:Int):AF ((w.setCell (Ad B 0) (Vi p)).setCell (Ad B 1) (Vi q)) B p q:=
 ⟨Zn (Wo h.1) (Zu),Wo (Zn h.2 (Zu))⟩
def FE(w:V6)(B C:Nat)(h y j:Int)(m e H:Bool)(l v n:Int):World:=
 ((((((((w.setCell (Ad B 0) (Vi h)).setCell (Ad B 1) (Vi y)).setCell (Ad B 2) (Vi j)).setCell (Ad B 3) (.bool m)).setCell (Ad B 4) (.bool e)).setCell (Ad B 5) (.bool H)).setCell (Ad B 6) (Vi l)).setCell (Ad C 0) (Vi v)).setCell (Ad C 1) (Vi n)
theorem Jaz(Y:A5 w B zI zB 0)(X:AF w C 0 0)(ha:C≠B)(y j m:Int)(e H Z:Bool)(l v n:Int):
 ((FE w B C y j m e H Z l v n).cell? (Ad B 0)=some (Vi y)/\(FE w B C y j m e H Z l v n).cell? (Ad B 1)=some (Vi j)/\(FE w B C y j m e H Z l v n).cell? (Ad B 2)=some (Vi m)/\(FE w B C y j m e H Z l v n).cell? (Ad B 3)=some (.bool e)/\(FE w B C y j m e H Z l v n).cell? (Ad B 4)=some (.bool H)/\(FE w B C y j m e H Z l v n).cell? (Ad B 5)=some (.bool Z)/\(FE w B C y j m e H Z l v n).cell? (Ad B 6)=some (Vi l))
 /\AF (FE w B C y j m e H Z l v n) C v n:=by
 refine⟨?_,?_⟩
 . have h:=((((((((Y.setBad0 y).setBad1 j).setBad2 m).setOut0 e).setOut1 H).setOut2 Z).setLast l).set (q:=0) (v:=Vi v) ha).set (q:=1) (v:=Vi n) ha;exact h
 . exact(((((((X.set (q:=0) (v:=Vi y) (Ne.symm ha)).set (q:=1) (v:=Vi j) (Ne.symm ha)).set (q:=2) (v:=Vi m) (Ne.symm ha)).set (q:=3) (v:=.bool e) (Ne.symm ha)).set (q:=4) (v:=.bool H) (Ne.symm ha)).set (q:=5) (v:=.bool Z) (Ne.symm ha)).set (q:=6) (v:=Vi l) (Ne.symm ha)).setBoth v n
theorem JZ{K:Nat}(h:Below K w0 w)(y:K<=B)(j:K<=C)(m e H:Int)(Z Y X:Bool)(l v n:Int):Below K w0 (FE w B C m e H Z Y X l v n):=
 ((((((((h.setCell y _).setCell y _).setCell y _).setCell y _).setCell y _).setCell y _).setCell y _).setCell j _).setCell j _
abbrev He:=Int×Int×Int
def AD(l:List He)(k:Nat):He:=l.getD k (0,0,0)
def HLs(w:V6)(a:V8)(l:List He):Prop:=l=[]\/∃b off,a=some (Ad b off)/\∀k,k<l.length->V2 w b (off+k*3) (AD l k).1/\V2 w b (off+k*3+1) (AD l k).2.1/\V2 w b (off+k*3+2) (AD l k).2.2
theorem HLs.lq{a:V8}{l:List He}(h:HLs w a l)(y:Bw w w'):HLs w' a l:=by
 rcases h with h|⟨b,off,h,hc⟩
 . exact .inl h
 . exact .inr ⟨b,off,h,fun k hk=>⟨cell_later y (hc k hk).1,cell_later y (hc k hk).2.1,cell_later y (hc k hk).2.2⟩⟩
theorem HLs.at{a:V8}{l:List He}(h:HLs w a l)(hk:k<l.length):∃b off,a=some (Ad b off)/\V2 w b (off+k*3) (AD l k).1/\V2 w b (off+k*3+1) (AD l k).2.1/\V2 w b (off+k*3+2) (AD l k).2.2:=by
 rcases h with h|⟨b,off,h,hc⟩
 . subst h;simp at hk
 . exact⟨b,off,h,hc k hk⟩
def weU(l:List He):Nat->Int
 |0=>0
 |k+1=>Zk [weU l k,heE (AD l k).1 (AD l k).2.1 (AD l k).2.2]
def wlU(l:List He):Nat->Int
 |0=>0
 |k+1=>mxL (wlU l k) (BT (AD l k).1 (AD l k).2.1 (AD l k).2.2)
theorem E8(l:List He)(k:Nat):weU l (k+1)=if weU l k=0 then heE (AD l k).1 (AD l k).2.1 (AD l k).2.2 else weU l k:=by
 simp only[weU,Zk]
 split
 . split
   . rename_i h;rw[h]
   . rfl
 . rfl
theorem Jhl{l:List He}(h:weU l k≠0):∀m,k<=m->weU l m=weU l k:=by
 intro m y
 induction m with
 |zero=>
  have:k=0:=by omega
  subst this;rfl
 |succ m ih=>
  by_cases e:k=m+1
  . subst e;rfl
  . have i:=ih (by omega);rw[E8,i,if_neg h]
def waI(l:List He):Int:=if weU l l.length=0 then wlU l l.length else 0
theorem XU(l:List He)(a:V8)(cap:Nat)(hl:l.length<=9223372036854775807)(w:V6)(Y:HLs w a l):
 Va 252 #[.slice a l.length cap] w (Rt w (.tuple #[Vi (waI l),A8 (weU l l.length)])):=by
 have Q:=Za Y;clear Y
 go_enter func252,ntmps252
 go_wp2
 go_loopw [4,10] (fun s i wr=>∃k:Nat,k<=l.length/\i=Vi k/\s=Vi (wlU l k)/\Hd (weU l k=0)/\Bw w wr) (fun _ i _=>l.length-(intOf i).toNat)
 case atStart=>exact⟨0,Nat.zero_le _,rfl,rfl,rfl,Below.refl _ _⟩
 case round=>
  obtain⟨k,hk,rfl,rfl,y,j⟩:=hrel
  by_cases hlt:k<l.length
  . obtain⟨K,M,rfl,d0,d1,d2⟩:=(Q.o.lq j).at hlt;have H:=Za (E8 l k);have G:=Za (show wlU l (k+1)=mxL (wlU l k) (BT (AD l k).1 (AD l k).2.1 (AD l k).2.2) from rfl)
    have N:(0:Int)<=(k:Int):=by omega
    have P:(k:Int)<(l.length:Int):=by omega
    have X:=Za j;clear j
    by_cases hz:heE (AD l k).1 (AD l k).2.1 (AD l k).2.2=0
    . have hc:=DL (AD l k).1 (AD l k).2.1 (AD l k).2.2;have R:=Jda (AD l k).1 (AD l k).2.1 (AD l k).2.2 (S8 hz);have T:=MO (wlU l k) (BT (AD l k).1 (AD l k).2.1 (AD l k).2.2);rw[hz,Z0] at hc;have h:=Za (show weU l (k+1)=0 by rw[H.o,if_pos y.o,hz]);clear hz H;generalize mxL (wlU l k) (BT (AD l k).1 (AD l k).2.1 (AD l k).2.2)=m at *;generalize BT (AD l k).1 (AD l k).2.1 (AD l k).2.2=q at *;generalize wlU l k=s at *;generalize (AD l k).1=x0 at *;generalize (AD l k).2.1=x1 at *;generalize (AD l k).2.2=x2 at*
      go_wp2_with (first
       |(go_at_call 285;refine Sb (hc _) fun J ha=>?_;have c0:=cell_later ha (a:=⟨wr.heap.size,0,none⟩) (v:=Vi x0) (by simp[go_sem]);have c1:=cell_later ha (a:=⟨wr.heap.size,1,none⟩) (v:=Vi x1) (by simp[go_sem]);have c2:=cell_later ha (a:=⟨wr.heap.size,2,none⟩) (v:=Vi x2) (by simp[go_sem]))
       |(go_at_call 287;refine Sb (R _) fun D hd=>?_)
       |(go_at_call 286;refine Sb (T _) fun w' hw=>?_;have hw:=hw.symm;subst hw))
      go_roundw
      case rel=>exact⟨k+1,by omega,by go_num,by rw[G.o],h,Zc X.o (Zc Vc (Zc ha hd))⟩
      case measure=>simp[intOf];omega
    . have hc:=DL (AD l k).1 (AD l k).2.1 (AD l k).2.2;rw[Zv hz] at hc
      have hs:weU l (k+1)=heE (AD l k).1 (AD l k).2.1 (AD l k).2.2:=by rw[H.o,if_pos y.o]
      have Z:weU l l.length=heE (AD l k).1 (AD l k).2.1 (AD l k).2.2:=by rw[Jhl (k:=k+1) (by rw[hs];exact hz) _ (by omega),hs]
      have h:=Za (show waI l=0/\A8 (weU l l.length)=.iface 22 (Vi (heE (AD l k).1 (AD l k).2.1 (AD l k).2.2)) by
       refine⟨?_,?_⟩
       . unfold waI;rw[if_neg (by rw[Z];exact hz)]
       . rw[Z,Zv hz])
      clear hz H hs Z;generalize heE (AD l k).1 (AD l k).2.1 (AD l k).2.2=q at *;generalize wlU l k=s at *;generalize (AD l k).1=x0 at *;generalize (AD l k).2.1=x1 at *;generalize (AD l k).2.2=x2 at*
      go_wp2_with (first
       |(go_at_call 285;refine Sb (hc _) fun J ha=>?_))
      go_ret2;exact⟨by rw[h.o.1,h.o.2];rfl,Zc X.o (Zc Vc ha)⟩
  . have e:k=l.length:=by omega
    subst e
    have h:=Za (show waI l=wlU l l.length/\A8 (weU l l.length)=.nilIface by
     unfold waI;rw[if_pos y.o,y.o];exact⟨rfl,rfl⟩)
    generalize wlU l l.length=s at *;go_wp2;go_ret2;exact⟨by rw[h.o.1,h.o.2];rfl,j⟩
end Go.Proofs.YtnepnnkdgejheaaGreatDoor
