import Derived.Lib.BitFns
import Derived.Laws.BitsAllLaws
import Derived.Laws.Bits128
import Derived.Test.YtnepnnkdgejheaaGreatDoorKp03
set_option maxRecDepth 100000
set_option maxHeartbeats 20000000
namespace Go.Proofs.YtnepnnkdgejheaaGreatDoor.Plain
set_option linter.unusedVariables false
def AE(n:Int):Nat->Int
 |0=>0
 |k+1=>AE n k+n/2^k%2
theorem Mn(n:Int):∀k,0<=AE n k
 |0=>Int.le_refl _
 |k+1=>by have:=Mn n k;simp only[AE];omega
theorem ID(n:Int):∀k:Nat,AE n k<=k
 |0=>by simp[AE]
 |k+1=>by have:=ID n k;simp only[AE];omega
def low(n:Int):Nat->Int
 |0=>0
 |k+1=>low n k+n/2^k%2*2^k
theorem Wn(n:Int):∀k:Nat,low n k=n%2^k
 |0=>by simp[low]
 |k+1=>by
  have y:(0:Int)<2^k:=Int.pow_pos (by decide);rw[low,Wn n k];have j:=Int.mul_ediv_add_emod n (2^k);have m:=Int.mul_ediv_add_emod (n/2^k) 2;have Z:=Int.emod_nonneg n (Int.ne_of_gt y);have Y:=Int.emod_lt_of_pos n y
  have e:0<=n/2^k%2:=by omega
  have w:n/2^k%2<=1:=by omega
  have H:n=(2^(k+1))*(n/2^k/2)+(n%2^k+n/2^k%2*2^k):=by
   conv=>lhs;rw[<-j,<-m]
   rw[Int.pow_succ,Int.mul_add]
   have:(2:Int)^k*(2*(n/2^k/2))=2^k*2*(n/2^k/2):=by rw[Int.mul_assoc]
   rw[this,Int.mul_comm (n/2^k%2) (2^k)]
   omega
  have X:n/2^k%2*2^k<=2^k:=by
   have:=Int.mul_le_mul_of_nonneg_right w (Int.le_of_lt y)
   omega
  have Q:0<=n/2^k%2*2^k:=Int.mul_nonneg e (Int.le_of_lt y)
  have hs:(2:Int)^(k+1)=2^k+2^k:=by rw[Int.pow_succ];omega
  have h:(n%2^k+n/2^k%2*2^k)%2^(k+1)=n%2^k+n/2^k%2*2^k:=Int.emod_eq_of_lt (by omega) (by omega)
  conv=>rhs;rw[H]
  rw[Int.add_comm ((2:Int)^(k+1)*_),Int.add_mul_emod_self_left,h]
def BG(n:Int):Nat->Int
 |0=>0
 |k+1=>2*BG n k+n/2^k%2
def Xf(n:Int):Nat->Int
 |0=>0
 |k+1=>Xf n k+n/2^(7-k)%2*2^k
theorem Jgq:∀n:Fin 256,Lib.pop8 (n.val:Int)=AE (n.val:Int) 8:=by decide +kernel
theorem Jgr:∀n:Fin 256,Lib.rev8 (n.val:Int)=BG (n.val:Int) 8:=by decide +kernel
theorem Jos:∀n:Fin 256,Lib.rev8 (n.val:Int)=Xf (n.val:Int) 8:=by decide +kernel
theorem Jgs:∀n:Fin 256,Lib.rev8 (Lib.rev8 (n.val:Int))=(n.val:Int):=by decide +kernel
theorem Jot:∀n:Fin 256,0<=Lib.rev8 (n.val:Int)/\Lib.rev8 (n.val:Int)<=255:=by decide +kernel
theorem JS(b:Int)(h0:0<=b)(h1:b<=255):Lib.pop8 b=AE b 8:=by
 have:=Jgq ⟨b.toNat,by omega⟩
 rwa[Int.toNat_of_nonneg h0] at this
theorem Jou(b:Int)(h0:0<=b)(h1:b<=255):Lib.rev8 b=BG b 8:=by
 have:=Jgr ⟨b.toNat,by omega⟩
 rwa[Int.toNat_of_nonneg h0] at this
theorem MV(b:Int)(h0:0<=b)(h1:b<=255):Lib.rev8 b=Xf b 8:=by
 have:=Jos ⟨b.toNat,by omega⟩
 rwa[Int.toNat_of_nonneg h0] at this
theorem Jlj(b:Int)(h0:0<=b)(h1:b<=255):Lib.rev8 (Lib.rev8 b)=b:=by
 have:=Jgs ⟨b.toNat,by omega⟩
 rwa[Int.toNat_of_nonneg h0] at this
theorem Nc(b:Int)(h0:0<=b)(h1:b<=255:=by omega):0<=Lib.rev8 b/\Lib.rev8 b<=255:=by
 have:=Jot ⟨b.toNat,by omega⟩
 rwa[Int.toNat_of_nonneg h0] at this
theorem GE(w:Int)(a j:Nat):w/2^a/2^j=w/2^(a+j):=by
 rw[Int.ediv_ediv_of_nonneg (Int.le_of_lt (Int.pow_pos (by decide))),Int.pow_add]
theorem Nd(w:Int)(a:Nat):∀b,AE w (a+b)=AE w a+AE (w/2^a) b
 |0=>by simp[AE]
 |b+1=>by rw[<-Nat.add_assoc,AE,Nd w a b,AE,GE];omega
theorem Jlk(w:Int)(k j:Nat)(h:j<k):w%2^k/2^j%2=w/2^j%2:=by
 have y:(0:Int)<2^j:=Int.pow_pos (by decide);have e:=Int.mul_ediv_add_emod w (2^k);obtain⟨m,rfl⟩:∃m,k=j+1+m:=⟨k-j-1,by omega⟩
 conv=>rhs;rw[<-e]
 have H:(2:Int)^(j+1+m)*(w/2^(j+1+m))=2^j*(2*(2^m*(w/2^(j+1+m)))):=by
  rw[Int.pow_add,Int.pow_succ,Int.mul_assoc,Int.mul_assoc]
 rw[H,Int.add_comm,Int.add_mul_ediv_left _ _ (Int.ne_of_gt y)]
 omega
theorem Ux(w:Int)(k:Nat):∀j,j<=k->AE (w%2^k) j=AE w j
 |0,_=>rfl
 |j+1,h=>by rw[AE,AE,Ux w k j (by omega),Jlk w k j (by omega)]
theorem WY(w:Int):AE w 32=AE (w/16777216%256) 8+AE (w/65536%256) 8+AE (w/256%256) 8+AE (w%256) 8:=by
 have h:=Nd w 24 8;have y:=Nd w 16 8;have j:=Nd w 8 8;have m0:=Ux w 8 8 (Nat.le_refl _);have m1:=Ux (w/256) 8 8 (Nat.le_refl _);have m:=Ux (w/65536) 8 8 (Nat.le_refl _);have e:=Ux (w/16777216) 8 8 (Nat.le_refl _);simp only[Nat.reduceAdd,Int.reducePow] at h y j m0 m1 m e
 omega
theorem Jgt(w:Int):BG (w%256) 8=BG w 8:=by
 simp only[BG,Int.reducePow,Int.pow_zero]
 omega
end Go.Proofs.YtnepnnkdgejheaaGreatDoor.Plain
namespace Go.Proofs.YtnepnnkdgejheaaGreatDoor
open Go.RowKit Plain Tryz
variable {a c d u x y z:Int}{b:Nat}{w w':V6}
theorem Jgu(n:Int):bits .and .i64 n 1=n%2:=by
 have h1:(BitVec.ofInt 64 1).toNat=2^1-1:=by decide
 have key:(BitVec.ofInt 64 n &&& BitVec.ofInt 64 1).toNat=(n%((2^64:Nat):Int)).toNat%2^1:=by
  rw[BitVec.toNat_and,BitVec.toNat_ofInt,h1,Nat.and_two_pow_sub_one_eq_mod]
 show IntKind.i64.wrap ((BitVec.ofInt 64 n &&& BitVec.ofInt 64 1).toNat:Nat)=n%2
 rw[key,IntKind.wrap_i64]
 omega
theorem Jaw(x i:Int)(h0:0<=i)(h1:i<=63)(w:V6):
 Va 130 #[Vi x,Vi i] w (Re w (Vi (x/2^i.toNat%2))):=by
 have h:=Jgu
 go_enter func130,ntmps130
 go_wp2;go_ret;exact⟨rfl,rfl⟩
theorem OR(x:Int)(h0:0<=x)(h1:x<4294967296)(w:V6):
 Va 131 #[.int .u32 x] w (Re w (.bool (decide (AE x 32%2=1)))):=by
 go_enter func131,ntmps131
 go_wp2
 go_loop [3,4] (fun n i=>∃k:Nat,k<=32/\i=Vi k/\n=Vi (AE x k)) (fun n i=>32-(intOf i).toNat)
 case atStart=>exact⟨0,by omega,rfl,rfl⟩
 case round=>
  obtain⟨k,hk,rfl,rfl⟩:=hrel;have y:=Mn x k;have j:=ID x k
  by_cases hlt:k<32
  . have hs:AE x (k+1)=AE x k+x/2^k%2:=rfl;generalize AE x k=n at*
    go_wp2_with (go_at_call 130;refine Sm (Jaw _ _ (by omega) (by omega) _) ?_)
    go_round
    case rel=>exact⟨k+1,by omega,by go_num,by rw[hs]⟩
    case measure=>simp[intOf];omega
  . have e:k=32:=by omega
    subst e;have hn:Hd (∃n,AE x 32=n):=⟨_,rfl⟩;obtain⟨n,hn⟩:=hn.o;have m:Hd (AE x 32=n):=hn;rw[hn] at y j|-;clear hn;go_wp2;go_ret;exact⟨by rw[m.o];by_cases h:n%2=1<;>simp[h],rfl⟩
theorem OS(x:Int)(w:V6)(h0:0<=x:=by omega)(h1:x<=255:=by omega):
 Va 241 #[.int .u8 x] w (Re w (.int .u8 (Lib.rev8 x))):=by
 go_enter func241,ntmps241
 go_wp2;go_ret;exact⟨rfl,rfl⟩
theorem Mo(b:Int)(h0:0<=b)(h1:b<=255):0<=Lib.pop8 b/\Lib.pop8 b<=8:=by
 rw[JS b h0 h1];exact⟨Mn b 8,ID b 8⟩
theorem LP(x:Int)(h0:0<=x)(h1:x<4294967296)(w:V6):
 Va 278 #[.int .u32 x] w fun e w'=>e=.returned (Vi (AE x 32))/\∃k,w'=w.drewN k:=by
 have h:0<=x/16777216/\x/16777216<=255:=by omega
 have y:0<=x/65536%256/\x/65536%256<=255:=by omega
 have j:0<=x/256%256/\x/256%256<=255:=by omega
 have m:0<=x%256/\x%256<=255:=by omega
 have H:=Mo _ h.1 h.2;have Z:=Mo _ y.1 y.2;have Y:=Mo _ j.1 j.2;have X:=Mo _ m.1 m.2
 have e:AE x 32=Lib.pop8 (x/16777216)+Lib.pop8 (x/65536%256)+Lib.pop8 (x/256%256)+Lib.pop8 (x%256):=by
  rw[WY,JS _ h.1 h.2,JS _ y.1 y.2,JS _ j.1 j.2,JS _ m.1 m.2]
  have:x/16777216%256=x/16777216:=by omega
  rw[this]
 rw[e];clear e
 have m1:bits .and .u32 (x/65536) 255=x/65536%256:=by rw[u32_and _ _ (by omega) (by omega) (by omega) (by omega)];simp[nat_mask8];omega
 have Q:bits .and .u32 (x/256) 255=x/256%256:=by rw[u32_and _ _ (by omega) (by omega) (by omega) (by omega)];simp[nat_mask8];omega
 have G:bits .and .u32 x 255=x%256:=by rw[u32_and _ _ (by omega) (by omega) (by omega) (by omega)];simp[nat_mask8];omega
 generalize ha:x/16777216=y0 at *;generalize R:x/65536%256=y1 at *;generalize hc:x/256%256=y2 at *;generalize hd:x%256=y3 at*
 go_enter func278,ntmps278
 go_wp2;go_quiet (fail);go_wp2;go_ret;exact⟨rfl,_,rfl⟩
theorem F8(x:Int)(h0:0<=x)(h1:x<4294967296)(w:V6):
 Va 243 #[.int .u32 x] w fun e w'=>e=.returned (.bool (decide (AE x 32%2=1)))/\∃k,w'=w.drewN k:=by
 have hc:=LP x h0 h1;have y:=Mn x 32;have j:=ID x 32;generalize AE x 32=n at*
 go_enter func243,ntmps243
 go_wp2_with (go_at_call 278;refine(hc _).mono ?_;rintro e w' ⟨rfl,k,rfl⟩);go_ret;exact⟨by by_cases h:n%2=1<;>simp[h],_,rfl⟩
theorem Jov(x:Int)(w:V6):
 Va 277 #[Vi x,Vi 8] w (Re w (.bool (decide (0<=x)&&decide (x<256)))):=by
 by_cases h0:0<=x
 . by_cases h1:x<256
   . rw[decide_eq_true h0,decide_eq_true h1]
     go_enter func277,ntmps277
     go_wp2;go_ret;exact⟨by simp,rfl⟩
   . rw[decide_eq_true h0,decide_eq_false h1]
     go_enter func277,ntmps277
     go_wp2;go_ret;exact⟨by simp,rfl⟩
 . rw[decide_eq_false h0]
   go_enter func277,ntmps277
   go_wp2;go_ret;exact⟨rfl,rfl⟩
theorem Jgv(x:Int)(w:V6):
 Va 277 #[Vi x,Vi 2] w (Re w (.bool (decide (0<=x)&&decide (x<4)))):=by
 by_cases h0:0<=x
 . by_cases h1:x<4
   . rw[decide_eq_true h0,decide_eq_true h1]
     go_enter func277,ntmps277
     go_wp2;go_ret;exact⟨by simp,rfl⟩
   . rw[decide_eq_true h0,decide_eq_false h1]
     go_enter func277,ntmps277
     go_wp2;go_ret;exact⟨by simp,rfl⟩
 . rw[decide_eq_false h0]
   go_enter func277,ntmps277
   go_wp2;go_ret;exact⟨rfl,rfl⟩
theorem WZ(x:Int)(h0:0<=x)(h1:x<524288)(w:V6):
 Va 256 #[.int .u32 x] w (Re w (Vi (if 262143<x then x-524288 else x))):=by
 by_cases h:262143<x
 . rw[if_pos h]
   go_enter func256,ntmps256
   go_wp2;go_ret;exact⟨rfl,rfl⟩
 . rw[if_neg h]
   go_enter func256,ntmps256
   go_wp2;go_ret;exact⟨rfl,rfl⟩
theorem MW(x:Int)(h0:0<=x)(h1:x<4294967296)(w:V6):
 Va 242 #[.int .u32 x,Vi 0,Vi 19] w fun e w'=>e=.returned (.int .u32 (x%524288))/\∃k,w'=w.drewN k:=by
 have m1:bits .and .u32 (x) 524287=x%524288:=by rw[u32_and _ _ (by omega) (by omega) (by omega) (by omega)];simp[nat_mask19];omega
 go_enter func242,ntmps242
 go_wp2;go_quiet (fail);go_wp2;go_ret;exact⟨by first|rfl|simp,_,rfl⟩
theorem Jgw(x:Int)(h0:0<=x)(h1:x<4294967296)(w:V6):
 Va 242 #[.int .u32 x,Vi 8,Vi 2] w fun e w'=>e=.returned (.int .u32 (x/256%4))/\∃k,w'=w.drewN k:=by
 have m1:bits .and .u32 (x/256) 3=x/256%4:=by rw[u32_and _ _ (by omega) (by omega) (by omega) (by omega)];simp[nat_mask2];omega
 go_enter func242,ntmps242
 go_wp2;go_quiet (fail);go_wp2;go_ret;exact⟨by first|rfl|simp,_,rfl⟩
theorem Jdp(x:Int)(h0:0<=x)(h1:x<4294967296)(w:V6):
 Va 242 #[.int .u32 x,Vi 29,Vi 2] w fun e w'=>e=.returned (.int .u32 (x/536870912%4))/\∃k,w'=w.drewN k:=by
 have m1:bits .and .u32 (x/536870912) 3=x/536870912%4:=by rw[u32_and _ _ (by omega) (by omega) (by omega) (by omega)];simp[nat_mask2];omega
 go_enter func242,ntmps242
 go_wp2;go_quiet (fail);go_wp2;go_ret;exact⟨by first|rfl|simp,_,rfl⟩
theorem XB(x:Int)(h0:0<=x)(h1:x<4294967296)(w:V6):
 Va 242 #[.int .u32 x,Vi 10,Vi 19] w fun e w'=>e=.returned (.int .u32 (x/1024%524288))/\∃k,w'=w.drewN k:=by
 have m1:bits .and .u32 (x/1024) 524287=x/1024%524288:=by rw[u32_and _ _ (by omega) (by omega) (by omega) (by omega)];simp[nat_mask19];omega
 go_enter func242,ntmps242
 go_wp2;go_quiet (fail);go_wp2;go_ret;exact⟨by first|rfl|simp,_,rfl⟩
def BN(a b c d:Int):Bool:=(decide (0<=a)&&decide (a<256))&&(decide (0<=b)&&decide (b<4))&&(decide (0<=c)&&decide (c<4))&&(decide (-262144<=d)&&decide (d<262144))
theorem N3{b:Int}(h:BN a b c d=true):(0<=a/\a<256)/\(0<=b/\b<4)/\(0<=c/\c<4)/\-262144<=d/\d<262144:=by
 simp[BN] at h;omega
theorem F9(d:Int)(w:V6):Va 244 #[Vi d] w (Re w (Vi (Ze d (-262144) 262143))):=by
 go_enter func244,ntmps244
 go_wp2_with (go_at_call 264;refine Sm (Y1 _ _ _ _) ?_);go_ret;exact⟨rfl,rfl⟩
theorem Jdq(a b c d:Int)(w:V6):
 Va 240 #[.agg #[Vi a,Vi b,Vi c,Vi d]] w (Rt w (A8 (if BN a b c d then 0 else 1))):=by
 have h:=Jov a;have y:=Jgv b;have f3:=Jgv c;have j:=F9 d
 have hd:(d != Ze d (-262144) 262143)=!(decide (-262144<=d)&&decide (d<262144)):=by
  unfold Ze
  by_cases h1:d< -262144
  . rw[if_pos h1,decide_eq_false (show ¬-262144<=d by omega)];simp;omega
  . rw[if_neg h1,if_neg (by omega),decide_eq_true (show -262144<=d by omega)]
    by_cases h2:262143<d
    . rw[if_pos h2,decide_eq_false (show ¬d<262144 by omega)];simp;omega
    . rw[if_neg h2,decide_eq_true (show d<262144 by omega)];simp
 unfold BN
 generalize Ze d (-262144) 262143=k at *;generalize (decide (0<=a)&&decide (a<256))=x1 at *;generalize (decide (0<=b)&&decide (b<4))=x2 at *;generalize (decide (0<=c)&&decide (c<4))=x3 at *;generalize (decide (-262144<=d)&&decide (d<262144))=x4 at*
 rcases(show x1=false\/(x1=true/\x2=false)\/(x1=true/\x2=true/\x3=false)\/(x1=true/\x2=true/\x3=true/\x4=false)\/(x1=true/\x2=true/\x3=true/\x4=true) by cases x1<;>cases x2<;>cases x3<;>cases x4<;>simp) with rfl|⟨rfl,rfl⟩|⟨rfl,rfl,rfl⟩|⟨rfl,rfl,rfl,rfl⟩|⟨rfl,rfl,rfl,rfl⟩
 . go_enter func240,ntmps240
   go_wp2_with (first|(go_at_call_of 277 a;refine Sm (h _) ?_)|(go_at_call_of 277 b;refine Sm (y _) ?_)|(go_at_call_of 277 c;refine Sm (f3 _) ?_));go_ret;exact⟨rfl,Zb _ _⟩
 . go_enter func240,ntmps240
   go_wp2_with (first|(go_at_call_of 277 a;refine Sm (h _) ?_)|(go_at_call_of 277 b;refine Sm (y _) ?_)|(go_at_call_of 277 c;refine Sm (f3 _) ?_));go_ret;exact⟨rfl,Zb _ _⟩
 . go_enter func240,ntmps240
   go_wp2_with (first|(go_at_call_of 277 a;refine Sm (h _) ?_)|(go_at_call_of 277 b;refine Sm (y _) ?_)|(go_at_call_of 277 c;refine Sm (f3 _) ?_));go_ret;exact⟨rfl,Zb _ _⟩
 all_goals
  simp only[Bool.not_false,Bool.not_true] at hd
  go_enter func240,ntmps240
  go_wp2_with (first|(go_at_call_of 277 a;refine Sm (h _) ?_)|(go_at_call_of 277 b;refine Sm (y _) ?_)|(go_at_call_of 277 c;refine Sm (f3 _) ?_));go_quiet ((go_at_call 244;exact Calls.quiet_of_same (j _)));go_wp2;go_ret;exact⟨rfl,below_drewN Vc _⟩
def Xa(a b c d:Int):Int:=Lib.rev8 a+b*256+d%524288*1024+c*536870912
def Z7(a b c d:Int):Int:=if AE (Xa a b c d) 32%2=1 then Xa a b c d else Xa a b c d+2147483648
theorem Jrf{b:Int}{T:TypeId}(h:Below (w.alloc (.cells #[Vi a,Vi b,Vi c,Vi d] T)).heap.size (w.alloc (.cells #[Vi a,Vi b,Vi c,Vi d] T)) w'):
 V0 w' w 0 a/\V0 w' w 1 b/\V0 w' w 2 c/\V0 w' w 3 d:=
 ⟨cell_later h (by simp[go_sem]),cell_later h (by simp[go_sem]),cell_later h (by simp[go_sem]),cell_later h (by simp[go_sem])⟩
theorem Jgx(a b c d:Int)(m:BN a b c d=true)(w:V6):
 Va 198 #[.agg #[Vi a,Vi b,Vi c,Vi d]] w (Rt w (.tuple #[.int .u32 (Z7 a b c d),.nilIface])):=by
 have hc:=Jdq a b c d;rw[m,if_pos rfl,Z0] at hc;obtain⟨⟨H,R⟩,⟨T,J⟩,⟨c0,c1⟩,d0,d1⟩:=N3 m;obtain⟨r0,r1⟩:=Nc a H
 have K:bits .or .u32 (Lib.rev8 a) (b*256)=Lib.rev8 a+b*256:=by
  rw[u32_or _ _ r0 (by omega) (by omega) (by omega),Nat.or_comm,nat_join 8 _ _ (by omega) (by omega)];omega
 have M:bits .or .u32 (Lib.rev8 a+b*256) (d%524288*1024)=Lib.rev8 a+b*256+d%524288*1024:=by
  rw[u32_or _ _ (by omega) (by omega) (by omega) (by omega),Nat.or_comm,nat_join 10 _ _ (by omega) (by omega)];omega
 have N:bits .or .u32 (Lib.rev8 a+b*256+d%524288*1024) (c*536870912)=Lib.rev8 a+b*256+d%524288*1024+c*536870912:=by
  rw[u32_or _ _ (by omega) (by omega) (by omega) (by omega),Nat.or_comm,nat_join 29 _ _ (by omega) (by omega)];omega
 have Z:bits .or .u32 (Lib.rev8 a+b*256+d%524288*1024+c*536870912) 2147483648=Lib.rev8 a+b*256+d%524288*1024+c*536870912+2147483648:=by
  rw[u32_or _ _ (by omega) (by omega) (by omega) (by omega),Nat.or_comm,nat_join 31 _ _ (by omega) (by omega)];omega
 have ho:=F8 (Xa a b c d) (by unfold Xa;omega) (by unfold Xa;omega)
 by_cases hodd:AE (Xa a b c d) 32%2=1
 . have y:Z7 a b c d=Lib.rev8 a+b*256+d%524288*1024+c*536870912:=by unfold Z7;rw[if_pos hodd];rfl
   rw[decide_eq_true hodd] at ho;rw[y]
   unfold Xa at ho
   clear hodd y Z
   go_enter func198,ntmps198
   go_wp2_with (first
    |(go_at_call 240;refine Sb (hc _) fun w' h=>?_;obtain⟨q0,Y,X,Q⟩:=Jrf h;have j:Hd (Below _ _ _):=h;clear h)
    |(go_at_call 241;refine Sm (OS _ _) ?_)
    |(go_at_call 242;refine(MW _ (by omega) (by omega) _).mono ?_;rintro e w' ⟨rfl,k,rfl⟩)
    |(go_at_call 243;refine(ho _).mono ?_;rintro e w' ⟨rfl,G,rfl⟩))
   go_ret2;exact⟨rfl,below_drewN (Zc Vc j.o) _⟩
 . have y:Z7 a b c d=Lib.rev8 a+b*256+d%524288*1024+c*536870912+2147483648:=by unfold Z7;rw[if_neg hodd];rfl
   rw[decide_eq_false hodd] at ho;rw[y]
   unfold Xa at ho
   clear hodd y
   go_enter func198,ntmps198
   go_wp2_with (first
    |(go_at_call 240;refine Sb (hc _) fun w' h=>?_;obtain⟨q0,Y,X,Q⟩:=Jrf h;have j:Hd (Below _ _ _):=h;clear h)
    |(go_at_call 241;refine Sm (OS _ _) ?_)
    |(go_at_call 242;refine(MW _ (by omega) (by omega) _).mono ?_;rintro e w' ⟨rfl,k,rfl⟩)
    |(go_at_call 243;refine(ho _).mono ?_;rintro e w' ⟨rfl,G,rfl⟩))
   go_ret2;exact⟨rfl,below_drewN (Zc Vc j.o) _⟩
def BO(x:Int):Int:=Lib.rev8 (x%256)
def CN(x:Int):Int:=x/256%4
def DR(x:Int):Int:=x/536870912%4
def CY(x:Int):Int:=if 262143<x/1024%524288 then x/1024%524288-524288 else x/1024%524288
def DS(x:Int):Value:=.agg #[Vi (BO x),Vi (CN x),Vi (DR x),Vi (CY x)]
def Jax(x a b:Int):Int:=x/2^a.toNat%2^b.toNat
theorem Jll(x a b:Int)(h0:0<=x)(h1:x<4294967296)(h:(a=8/\b=2)\/(a=29/\b=2)\/(a=10/\b=19))(w:V6):
 Va 242 #[.int .u32 x,Vi a,Vi b] w fun e w'=>e=.returned (.int .u32 (Jax x a b))/\∃k,w'=w.drewN k:=by
 rcases h with⟨rfl,rfl⟩|⟨rfl,rfl⟩|⟨rfl,rfl⟩
 . exact Jgw x h0 h1 w
 . exact Jdp x h0 h1 w
 . exact XB x h0 h1 w
def AC(w:V6)(b:Nat)(x y z u:Int):Prop:=
 V2 w b 0 x/\V2 w b 1 y/\V2 w b 2 z/\V2 w b 3 u
 /\w.frozen? (Ad b 0)=false/\w.frozen? (Ad b 1)=false/\w.frozen? (Ad b 2)=false/\w.frozen? (Ad b 3)=false/\b<w.heap.size
theorem AC.new(w:V6)(x y z u:Int)(T:TypeId):AC (w.alloc (.cells #[Vi x,Vi y,Vi z,Vi u] T)) w.heap.size x y z u:=by
 refine⟨?_,?_,?_,?_,?_,?_,?_,?_,?_⟩<;>simp[go_sem]
theorem AC.lq(h:AC w b x y z u)(j:Bw w w'):AC w' b x y z u:=by
 obtain⟨h1,h2,h3,h4,h5,h6,h7,e,m⟩:=h;exact⟨cell_later j h1,cell_later j h2,cell_later j h3,cell_later j h4,(j.frozen (p:=⟨b,0,none⟩) m).trans h5,(j.frozen (p:=⟨b,1,none⟩) m).trans h6,(j.frozen (p:=⟨b,2,none⟩) m).trans h7,(j.frozen (p:=⟨b,3,none⟩) m).trans e,Nat.lt_of_lt_of_le m j.size⟩
theorem AC.set(h:AC w b x y z u)(p q r s:Int):
 AC ((((w.setCell (Ad b 0) (Vi p)).setCell (Ad b 1) (Vi q)).setCell (Ad b 2) (Vi r)).setCell (Ad b 3) (Vi s)) b p q r s:=by
 obtain⟨h1,h2,h3,h4,h5,h6,h7,m,j⟩:=h;exact⟨by simp[go_sem, *],by simp[go_sem, *],by simp[go_sem, *],by simp[go_sem, *],by simp[go_sem, *],by simp[go_sem, *],by simp[go_sem, *],by simp[go_sem, *],by simpa[go_sem] using j⟩
theorem AC.set0(h:AC w b x y z u)(p:Int):AC (w.setCell (Ad b 0) (Vi p)) b p y z u:=by
 obtain⟨h1,h2,h3,h4,h5,h6,h7,m,j⟩:=h;exact⟨by simp[go_sem, *],by simp[go_sem, *],by simp[go_sem, *],by simp[go_sem, *],by simp[go_sem, *],by simp[go_sem, *],by simp[go_sem, *],by simp[go_sem, *],by simpa[go_sem] using j⟩
theorem AC.set1(h:AC w b x y z u)(p:Int):AC (w.setCell (Ad b 1) (Vi p)) b x p z u:=by
 obtain⟨h1,h2,h3,h4,h5,h6,h7,m,j⟩:=h;exact⟨by simp[go_sem, *],by simp[go_sem, *],by simp[go_sem, *],by simp[go_sem, *],by simp[go_sem, *],by simp[go_sem, *],by simp[go_sem, *],by simp[go_sem, *],by simpa[go_sem] using j⟩
theorem AC.set2(h:AC w b x y z u)(p:Int):AC (w.setCell (Ad b 2) (Vi p)) b x y p u:=by
 obtain⟨h1,h2,h3,h4,h5,h6,h7,m,j⟩:=h;exact⟨by simp[go_sem, *],by simp[go_sem, *],by simp[go_sem, *],by simp[go_sem, *],by simp[go_sem, *],by simp[go_sem, *],by simp[go_sem, *],by simp[go_sem, *],by simpa[go_sem] using j⟩
theorem AC.set3(h:AC w b x y z u)(p:Int):AC (w.setCell (Ad b 3) (Vi p)) b x y z p:=by
 obtain⟨h1,h2,h3,h4,h5,h6,h7,m,j⟩:=h;exact⟨by simp[go_sem, *],by simp[go_sem, *],by simp[go_sem, *],by simp[go_sem, *],by simp[go_sem, *],by simp[go_sem, *],by simp[go_sem, *],by simp[go_sem, *],by simpa[go_sem] using j⟩
theorem AC.else{c o:Nat}{v:Value}(h:AC w b x y z u)(hc:c≠b):AC (w.setCell (Ad c o) v) b x y z u:=by
 obtain⟨h1,h2,h3,h4,h5,h6,h7,j,m⟩:=h;exact⟨(World.cell?_setCell_other _ _ _ _ (fun e=>hc (congrArg Addr.block e))).trans h1,(World.cell?_setCell_other _ _ _ _ (fun e=>hc (congrArg Addr.block e))).trans h2,(World.cell?_setCell_other _ _ _ _ (fun e=>hc (congrArg Addr.block e))).trans h3,(World.cell?_setCell_other _ _ _ _ (fun e=>hc (congrArg Addr.block e))).trans h4,by simp[go_sem,h5],by simp[go_sem,h6],by simp[go_sem,h7],by simp[go_sem,j],by simpa[go_sem] using m⟩
theorem AC.drew(h:AC w b x y z u):AC w.drew b x y z u:=h.lq Vb
theorem Nf{B:Nat}{w0:V6}(y:Below B w0 w)(h:B<=b)(p q r s:Value):
 Below B w0 ((((w.setCell (Ad b 0) p).setCell (Ad b 1) q).setCell (Ad b 2) r).setCell (Ad b 3) s):=
 (((y.setCell h _).setCell h _).setCell h _).setCell h _
theorem Jdr(x:Int)(h0:0<=x)(h1:x<4294967296)(h:¬AE x 32%2=1)(w:V6):
 Va 209 #[.int .u32 x] w (Rt w (.tuple #[.agg #[Vi 0,Vi 0,Vi 0,Vi 0],A8 3])):=by
 have ho:=F8 x h0 h1;rw[decide_eq_false h] at ho;rw[Zv (by decide)];clear h
 go_enter func209,ntmps209
 go_wp2_with (go_at_call 243;refine(ho _).mono ?_;rintro e w' ⟨rfl,y,rfl⟩);have j:Hd (AC ((w.alloc (.cells #[Vi 0,Vi 0,Vi 0,Vi 0] 155)).drewN y) w.heap.size 0 0 0 0):=(AC.new w 0 0 0 0 155).lq (below_drewN (Below.refl _ _) _);have m:Hd (Bw w ((w.alloc (.cells #[Vi 0,Vi 0,Vi 0,Vi 0] 155)).drewN y)):=below_drewN Vc _;generalize ((w.alloc (.cells #[Vi 0,Vi 0,Vi 0,Vi 0] 155)).drewN y)=w1 at *;have hx:=j.o.set 0 0 0 0;have H:=Nf m.o (Nat.le_refl _) (Vi 0) (Vi 0) (Vi 0) (Vi 0);generalize ((((w1.setCell (Ad w.heap.size 0) (Vi 0)).setCell (Ad w.heap.size 1) (Vi 0)).setCell (Ad w.heap.size 2) (Vi 0)).setCell (Ad w.heap.size 3) (Vi 0))=w2 at *;obtain⟨c0,c1,c2,c3,_⟩:=hx;exact bodyPost_ret (v:=.tuple #[.agg #[Vi 0,Vi 0,Vi 0,Vi 0],.iface 22 (Vi 3)]) (by simp[results,results209,go_sem,c0,c1,c2,c3]) rfl ⟨rfl,H⟩
theorem XC(x:Int)(h0:0<=x)(h1:x<4294967296)(h:AE x 32%2=1)(w:V6):
 Va 209 #[.int .u32 x] w (Rt w (.tuple #[DS x,.nilIface])):=by
 have ho:=F8 x h0 h1;rw[decide_eq_true h] at ho;clear h;have y:=OS (x%256);have X:=Nc (x%256) (by omega);have Q:Jax x 8 2=x/256%4:=rfl;have G:Jax x 29 2=x/536870912%4:=rfl;have R:Jax x 10 19=x/1024%524288:=rfl;have hs:=WZ (x/1024%524288) (by omega) (by omega)
 have T:0<=x/256%4/\x/256%4<4:=by omega
 have J:0<=x/536870912%4/\x/536870912%4<4:=by omega
 unfold DS BO CN DR CY
 generalize (if 262143<x/1024%524288 then x/1024%524288-524288 else x/1024%524288)=dd at *;generalize x/1024%524288=d at *;generalize x/256%4=b at *;generalize x/536870912%4=c at *;generalize Lib.rev8 (x%256)=a at*
 go_enter func209,ntmps209
 go_wp2_with (first
  |(go_at_call 243;refine(ho _).mono ?_;rintro e w' ⟨rfl,j,rfl⟩)
  |(go_at_call 241;refine Sm (y _) ?_)
  |(go_at_call 256;refine Sm (hs _) ?_)
  |(go_at_call 242;refine(Jll _ _ _ h0 h1 (by decide) _).mono ?_;rintro e w' ⟨rfl,m,rfl⟩))
 rename_i ka kb
 generalize j+ka+kb+m=k2;have H:Hd (AC ((w.alloc (.cells #[Vi 0,Vi 0,Vi 0,Vi 0] 155)).drewN k2) w.heap.size 0 0 0 0):=(AC.new w 0 0 0 0 155).lq (below_drewN (Below.refl _ _) _);have Z:Hd (Bw w ((w.alloc (.cells #[Vi 0,Vi 0,Vi 0,Vi 0] 155)).drewN k2)):=below_drewN Vc _;generalize ((w.alloc (.cells #[Vi 0,Vi 0,Vi 0,Vi 0] 155)).drewN k2)=w1 at *;have hx:=H.o.set a b c dd;have Y:=Nf Z.o (Nat.le_refl _) (Vi a) (Vi b) (Vi c) (Vi dd);generalize ((((w1.setCell (Ad w.heap.size 0) (Vi a)).setCell (Ad w.heap.size 1) (Vi b)).setCell (Ad w.heap.size 2) (Vi c)).setCell (Ad w.heap.size 3) (Vi dd))=w2 at *;obtain⟨c0,c1,c2,c3,_⟩:=hx;exact bodyPost_ret (v:=.tuple #[.agg #[Vi a,Vi b,Vi c,Vi dd],.nilIface]) (by simp[results,results209,go_sem,c0,c1,c2,c3]) rfl ⟨rfl,Y⟩
theorem Ww(j k:Nat)(h:j<=k:=by omega):(2:Int)^j<=2^k:=by
 have:(2:Nat)^j<=2^k:=Nat.pow_le_pow_right (by decide) h
 exact_mod_cast this
theorem GF(x:Int):∀k:Nat,0<=BG x k/\BG x k<2^k
 |0=>by simp[BG]
 |k+1=>by
  have h:=GF x k;rw[BG,Int.pow_succ]
  omega
theorem OT(x:Int)(k:Nat)(hk:k<=8:=by omega):0<=BG x k/\BG x k<=255:=by
 have h:=GF x k;have:(2:Int)^k<=2^8:=Ww k 8 (h:=hk)
 omega
theorem JT(x:Int)(k:Nat)(hk:k<=18):0<=low x k/\low x k<262144:=by
 rw[Wn];have y:(0:Int)<2^k:=Int.pow_pos (by decide);have:=Int.emod_nonneg x (Int.ne_of_gt y);have:=Int.emod_lt_of_pos x y;have:(2:Int)^k<=2^18:=Ww k 18 (h:=hk)
 omega
def btI(x i:Int):Int:=x/2^i.toNat%2
theorem Xp(x i:Int):0<=btI x i/\btI x i<=1:=by unfold btI;omega
theorem X7(x i:Int)(w:V6)(h0:0<=i:=by omega)(h1:i<=63:=by omega):
 Va 130 #[Vi x,Vi i] w (Re w (Vi (btI x i))):=Jaw x i h0 h1 w
theorem Jgy(x:Int)(k:Nat):low (x/1024) (k+1)=low (x/1024) k+btI x (10+(k:Int))*2^k:=by
 rw[low,btI,show(10+(k:Int)).toNat=10+k by omega,<-GE]
 rfl
theorem Jds(x:Int)(k:Nat):BG x (k+1)=2*BG x k+btI x k:=by rw[BG,btI];rfl
theorem Jgz(x:Int):btI x 8+2*btI x 9=CN x:=by unfold btI CN;simp only[Int.reduceToNat,Int.reducePow];omega
theorem Jg0(x:Int):btI x 29+2*btI x 30=DR x:=by unfold btI DR;simp only[Int.reduceToNat,Int.reducePow];omega
theorem Jg1(x:Int):low (x/1024) 18-btI x 28*262144=CY x:=by
 rw[Wn];unfold btI CY;simp only[Int.reduceToNat,Int.reducePow];split<;>omega
theorem JU(x:Int):BG x 8=BO x:=by
 unfold BO
 rw[Jou _ (by omega) (by omega),Jgt]
theorem JV(b:Int)(k:Nat)(h0:0<=b)(h1:b<=1)(hk:k<=17:=by omega):0<=b*2^k/\b*2^k<=131072:=by
 have y:(0:Int)<2^k:=Int.pow_pos (by decide);have j:(2:Int)^k<=2^17:=Ww k 17 (h:=hk);refine⟨Int.mul_nonneg h0 (Int.le_of_lt y),?_⟩;have:=Int.mul_le_mul_of_nonneg_right h1 (Int.le_of_lt y)
 omega
theorem LQ(x:Int)(h0:0<=x)(h1:x<4294967296)(w:V6):
 Va 132 #[.int .u32 x] w (Rt w (DS x)):=by
 go_enter func132,ntmps132
 go_wp2
 go_loopw [5] (fun i wr=>∃k:Nat,k<=8/\i=Vi k/\AC wr w.heap.size 0 0 0 0/\AC wr (w.heap.size+1) (BG x k) 0 0 0/\Bw w wr) (fun i _=>8-(intOf i).toNat)
 case atStart=>
  refine⟨0,by omega,rfl,?_,?_,?_⟩
  . exact(AC.new _ _ _ _ _ _).lq Vc
  . have:=AC.new (w.alloc (.cells #[Vi 0,Vi 0,Vi 0,Vi 0] 155)) 0 0 0 0 155
    simpa[go_sem,BG] using this
  . exact Zc Vc Vc
 case round=>
  obtain⟨k,hk,rfl,hx,hy,j⟩:=hrel
  by_cases hlt:k<8
  . have H:=OT x k;have hs:Hd (BG x (k+1)=2*BG x k+btI x k):=Jds x k;have h:Hd (AC wr (w.heap.size+1) (BG x k) 0 0 0):=hy;have y:Hd (AC wr w.heap.size 0 0 0 0):=hx;obtain⟨c0,c1,c2,c3,d0,d1,d2,d3,m⟩:=hy;have ha:=X7 x k;have hc:=Xp x k;clear hx;generalize BG x k=t at *;generalize btI x k=b at*
    have hd:=Wr (2*t)
    have Z:=Wr (2*t+b)
    go_wp2
    go_region_with (go_at_call 130;refine Sm (ha _) ?_)
    all_goals
     go_wp2;go_roundw
     (case rel=>exact⟨k+1,by omega,by go_num,(y.o.else (by omega)).drew,by rw[hs.o];exact(h.o.set0 _).drew,(j.setCell (by simp) _).drew⟩)
     (case measure=>simp[intOf];omega)
  . have e:k=8:=by omega
    subst e;rw[JU] at hy
    have hl:0<=BO x/\BO x<=255:=by rw[<-JU];exact OT x 8
    have Q:=Xp x 8;have G:=Xp x 9;have b29:=Xp x 29;have b30:=Xp x 30;have Y:Hd (btI x 8+2*btI x 9=CN x/\btI x 29+2*btI x 30=DR x):=⟨Jgz x,Jg0 x⟩;have h:Hd (AC wr (w.heap.size+1) (BO x) 0 0 0):=hy;have y:Hd (AC wr w.heap.size 0 0 0 0):=hx;obtain⟨c0,c1,c2,c3,d0,d1,d2,d3,m⟩:=hy;clear hx;have X:Hd (Bw w wr):=j;clear j
    go_wp2_with (go_at_call 130;refine Sm (X7 _ _ _) ?_)
    go_loopw [6] (fun i wr2=>∃k:Nat,k<=18/\i=Vi k/\AC wr2 w.heap.size 0 0 0 0/\AC wr2 (w.heap.size+1) (BO x) (CN x) (DR x) (low (x/1024) k)/\Bw w wr2) (fun i _=>18-(intOf i).toNat)
    case atStart=>
     refine⟨0,by omega,rfl,(y.o.else (by omega)).else (by omega),?_,(X.o.setCell (by simp) _).setCell (by simp) _⟩;rw[<-Y.o.1,<-Y.o.2];exact(h.o.set1 _).set2 _
    case round=>
     rename_i wr2
     clear y h X c0 c1 c2 c3 d0 d1 d2 d3 m Q G b29 b30;obtain⟨k,hk,rfl,hx,hy,j⟩:=hrel
     by_cases hlt2:k<18
     . have H:=JT (x/1024) k (by omega);have hs:Hd (low (x/1024) (k+1)=low (x/1024) k+btI x (10+(k:Int))*2^k):=Jgy x k;have ha:=X7 x (10+(k:Int));have hc:=Xp x (10+(k:Int));have N:=JV _ k hc.1 hc.2;have h:Hd (AC _ (w.heap.size+1) _ _ _ (low (x/1024) k)):=hy;have y:Hd (AC _ w.heap.size 0 0 0 0):=hx;obtain⟨c0,c1,c2,c3,d0,d1,d2,d3,m⟩:=hy;clear hx;generalize low (x/1024) k=t at *;generalize btI x (10+(k:Int))=b at*
       have P:=Wr (10+(k:Int))
       have hd:=Wr (b*2^k)
       have Z:=Wr (t+b*2^k)
       go_wp2
       go_region_with (go_at_call 130;refine Sm (ha _) ?_)
       all_goals
        go_wp2;go_roundw
        (case rel=>exact⟨k+1,by omega,by go_num,(y.o.else (by omega)).drew,by rw[hs.o];exact(h.o.set3 _).drew,(j.setCell (by simp) _).drew⟩)
        (case measure=>simp[intOf];omega)
     . have e:k=18:=by omega
       subst e;have ha:=X7 x 28;have hc:=Xp x 28;have H:=JT (x/1024) 18 (by omega);have R:Hd (low (x/1024) 18-btI x 28*262144=CY x):=Jg1 x;have h:Hd (AC _ (w.heap.size+1) _ _ _ (low (x/1024) 18)):=hy;have y:Hd (AC _ w.heap.size 0 0 0 0):=hx;obtain⟨c0,c1,c2,c3,d0,d1,d2,d3,m⟩:=hy;obtain⟨T,J,K,M,D,C,E,f3,F⟩:=hx;generalize low (x/1024) 18=t at *;generalize btI x 28=b at*
       have hd:=Wr (b*262144)
       have Z:=Wr (t-b*262144)
       go_wp2
       go_region_with (go_at_call 130;refine Sm (ha _) ?_)
       all_goals
        go_wp2;exact bodyPost_ret (v:=.agg #[Vi (BO x),Vi (CN x),Vi (DR x),Vi (t-b*262144)]) (by simp[results,results132,go_sem,T,J,K,M]) rfl ⟨by unfold DS;rw[<-R.o],by repeat (first|exact j|apply Below.drew|(refine Below.setCell ?_ (by simp) _))⟩
theorem GT(x:Int)(k:Nat)(h:k<8):Xf x (k+1)=Xf x k+btI x (7-(k:Int))*2^k:=by
 rw[Xf,btI,show(7-(k:Int)).toNat=7-k by omega]
theorem El(x:Int):∀k:Nat,0<=Xf x k/\Xf x k<2^k
 |0=>by simp[Xf]
 |k+1=>by
  have h:=El x k;have y:(0:Int)<2^k:=Int.pow_pos (by decide);rw[Xf,Int.pow_succ]
  have j:0<=x/2^(7-k)%2:=by omega
  have m:x/2^(7-k)%2<=1:=by omega
  have e:=Int.mul_le_mul_of_nonneg_right m (Int.le_of_lt y);have w:=Int.mul_nonneg j (Int.le_of_lt y)
  omega
theorem FO(x:Int)(k:Nat):0<=low x k/\low x k<2^k:=by
 rw[Wn];have h:(0:Int)<2^k:=Int.pow_pos (by decide);exact⟨Int.emod_nonneg x (Int.ne_of_gt h),Int.emod_lt_of_pos x h⟩
theorem No(x:Int)(k:Nat):low x (k+1)=low x k+btI x k*2^k:=by rw[low,btI];rfl
theorem UP(b:Int)(j k:Nat)(h0:0<=b)(h1:b<=1):0<=b*2^(j+k)/\b*2^(j+k)<=2^(j+k)/\b*2^(j+k)=b*2^k*2^j:=by
 have h:(0:Int)<2^(j+k):=Int.pow_pos (by decide);refine⟨Int.mul_nonneg h0 (Int.le_of_lt h),?_,?_⟩
 . have:=Int.mul_le_mul_of_nonneg_right h1 (Int.le_of_lt h)
   omega
 . rw[Int.pow_add,Int.mul_assoc,Int.mul_comm (2^j)]
theorem KO(a b c d:Int)(F:BN a b c d=true)(hd:d<0)(w:V6):
 Va 74 #[.agg #[Vi a,Vi b,Vi c,Vi d]] w (Rt w (.int .u32 (Z7 a b c d))):=by
 obtain⟨⟨J,B⟩,⟨W,b1⟩,⟨c0,c1⟩,d0,d1⟩:=N3 F
 have I:Hd ((d+524288)=d%524288):=by show(d+524288)=d%524288;omega
 have hw:=Wr (d+524288)
 go_enter func74,ntmps74
 go_wp2
 go_loop [4,5] (fun v i=>∃k:Nat,k<=8/\i=Vi k/\v=.int .u32 (Xf a k)) (fun v i=>8-(intOf i).toNat)
 case atStart=>exact⟨0,by omega,rfl,rfl⟩
 case round=>
  obtain⟨k,hk,rfl,rfl⟩:=hrel
  by_cases hlt:k<8
  . have L:=El a k;have Y:(2:Int)^k<=2^7:=Ww k 7;have hs:Hd (Xf a (k+1)=Xf a k+btI a (7-(k:Int))*2^k):=GT a k hlt;have R:=X7 a (7-(k:Int));have ha:=Xp a (7-(k:Int));have hi:=JV _ k ha.1 ha.2
    have O:btI a (7-(k:Int))*2^k<=2^k:=by
     have:=Int.mul_le_mul_of_nonneg_right ha.2 (Int.le_of_lt (show(0:Int)<2^k from Int.pow_pos (by decide)))
     omega
    generalize Xf a k=t at *;generalize btI a (7-(k:Int))=b' at*
    go_wp2_with (go_at_call 130;refine Sm (R _) ?_)
    go_round
    case rel=>exact⟨k+1,by omega,by go_num,by rw[hs.o]⟩
    case measure=>simp[intOf];omega
  . have e:k=8:=by omega
    subst e;rw[<-MV a J (by omega)];obtain⟨r0,r1⟩:=Nc a J;have H:Hd (AC (w.alloc (.cells #[Vi a,Vi b,Vi c,Vi d] 155)) w.heap.size a b c d):=AC.new _ _ _ _ _ _;have h:Hd (Bw w (w.alloc (.cells #[Vi a,Vi b,Vi c,Vi d] 155))):=Zb _ _;go_wp2;generalize (w.alloc (.cells #[Vi a,Vi b,Vi c,Vi d] 155))=w1 at*
    go_loopw [4,6] (fun v i wr=>∃k:Nat,k<=2/\i=Vi k/\v=.int .u32 (Lib.rev8 a+low b k*256+low c k*536870912)/\AC wr w.heap.size a b c d/\Bw w wr) (fun v i _=>2-(intOf i).toNat)
    case atStart=>exact⟨0,by omega,rfl,by simp[low],H,h⟩
    case round=>
     clear H h;obtain⟨k,hk,rfl,rfl,hx,K⟩:=hrel;have H:Hd (AC wr w.heap.size a b c d):=hx;obtain⟨q0,q1,q2,q3,_⟩:=hx;have h:Hd (Bw w wr):=K;clear K
     by_cases hlt2:k<2
     . have M:=FO b k;have N:=FO c k;have Y:(2:Int)^k<=2^1:=Ww k 1;have hc:=No b k;have y:=No c k;have X:=X7 b k;have Q:=X7 c k;have P:=Xp b k;have D:=Xp c k
       rcases Qtw k with rfl|rfl
       . simp only[Int.reducePow,Int.pow_zero,Int.mul_one,Nat.zero_add] at hc y M N Y;generalize low b 0=t1 at *;generalize low c 0=t2 at *;simp only[Int.natCast_zero] at X Q P D hc y;generalize btI b 0=j at *;generalize btI c 0=m at *;have Z:Hd (low b 1=t1+j/\low c 1=t2+m):=⟨hc,y⟩;clear hc y;go_wp2
         go_quiet (first
          |(go_at_call_of 130 b;exact Calls.quiet_of_same (X _))
          |(go_at_call_of 130 c;exact Calls.quiet_of_same (Q _)))
         go_wp2;go_roundw
         case rel=>
          refine⟨1,by omega,by go_num,?_,H.o.lq (below_drewN (Below.refl _ _) _),below_drewN h.o _⟩;rw[Z.o.1,Z.o.2]
          (congr 1;omega)
         case measure=>simp[intOf]
       . simp only[Int.reducePow,Nat.reduceAdd] at hc y M N Y X Q P D;generalize low b 1=t1 at *;generalize low c 1=t2 at *;generalize btI b 1=j at *;generalize btI c 1=m at *;have Z:Hd (low b 2=t1+j*2/\low c 2=t2+m*2):=⟨hc,y⟩;clear hc y;go_wp2
         go_quiet (first
          |(go_at_call_of 130 b;exact Calls.quiet_of_same (X _))
          |(go_at_call_of 130 c;exact Calls.quiet_of_same (Q _)))
         go_wp2;go_roundw
         case rel=>
          refine⟨2,by omega,by go_num,?_,H.o.lq (below_drewN (Below.refl _ _) _),below_drewN h.o _⟩;rw[Z.o.1,Z.o.2]
          (congr 1;omega)
         case measure=>simp[intOf]
     . have e:k=2:=by omega
       subst e
       have j:low b 2=b:=by rw[Wn];simp only[Int.reducePow];omega
       have m:low c 2=c:=by rw[Wn];simp only[Int.reducePow];omega
       rw[j,m,show((2:Nat):Int)=2 from rfl];clear j m;generalize C:Lib.rev8 a=r at *;have U:Hd (Lib.rev8 a=r):=C;clear C;go_wp2
       go_loop [4,7] (fun v i=>∃k:Nat,k<=19/\i=Vi k/\v=.int .u32 (r+b*256+c*536870912+low (d+524288) k*1024)) (fun v i=>19-(intOf i).toNat)
       case atStart=>exact⟨0,by omega,rfl,by simp[low]⟩
       case round=>
        obtain⟨k,hj,rfl,rfl⟩:=hrel
        by_cases hlt3:k<19
        . have L:=FO (d+524288) k;have Y:(2:Int)^k<=2^18:=Ww k 18;have hs:Hd (low (d+524288) (k+1)=low (d+524288) k+btI (d+524288) k*2^k):=No (d+524288) k;have R:=X7 (d+524288) k;have ha:=Xp (d+524288) k;have A:=UP (btI (d+524288) k) 10 k ha.1 ha.2
          have O:btI (d+524288) k*2^k<=2^k:=by
           have:=Int.mul_le_mul_of_nonneg_right ha.2 (Int.le_of_lt (show(0:Int)<2^k from Int.pow_pos (by decide)))
           omega
          have hl:(10+(k:Int)).toNat=10+k:=by omega
          generalize low (d+524288) k=t at *;generalize btI (d+524288) k=b' at *;simp only[Int.reducePow] at A;generalize hz:b'*2^(10+k)=z at*
          go_wp2_with (go_at_call 130;refine Sm (R _) ?_)
          go_round
          case rel=>
           refine⟨k+1,by omega,by go_num,?_⟩;rw[hs.o,Int.add_mul]
           (congr 1;omega)
          case measure=>simp[intOf];omega
        . have e:k=19:=by omega
          subst e
          have E:low (d+524288) 19=(d+524288):=by rw[Wn];simp only[Int.reducePow];omega
          have G:Hd (r+b*256+c*536870912+(d+524288)*1024=Xa a b c d):=by
           show r+b*256+c*536870912+(d+524288)*1024=Xa a b c d
           unfold Xa
           rw[U.o,I.o]
           omega
          have ho:=OR (r+b*256+c*536870912+(d+524288)*1024) (by omega) (by omega);rw[E,show((19:Nat):Int)=19 from rfl];clear E
          by_cases hodd:AE (r+b*256+c*536870912+(d+524288)*1024) 32%2=1
          . have T:Hd (Z7 a b c d=r+b*256+c*536870912+(d+524288)*1024):=by
             show Z7 a b c d=_
             unfold Z7;rw[<-G.o,if_pos hodd]
            rw[decide_eq_true hodd] at ho;clear hodd G
            go_wp2_with (go_at_call 131;refine Sm (ho _) ?_);go_ret;exact⟨by rw[T.o];rfl,h⟩
          . have T:Hd (Z7 a b c d=r+b*256+c*536870912+(d+524288)*1024+2147483648):=by
             show Z7 a b c d=_
             unfold Z7;rw[<-G.o,if_neg hodd]
            rw[decide_eq_false hodd] at ho;clear hodd G
            go_wp2_with (go_at_call 131;refine Sm (ho _) ?_);go_ret;exact⟨by rw[T.o];rfl,h⟩
theorem KP(a b c d:Int)(F:BN a b c d=true)(hd:0<=d)(w:V6):
 Va 74 #[.agg #[Vi a,Vi b,Vi c,Vi d]] w (Rt w (.int .u32 (Z7 a b c d))):=by
 obtain⟨⟨J,B⟩,⟨W,b1⟩,⟨c0,c1⟩,d0,d1⟩:=N3 F
 have I:Hd (d=d%524288):=by show d=d%524288;omega
 go_enter func74,ntmps74
 go_wp2
 go_loop [4,5] (fun v i=>∃k:Nat,k<=8/\i=Vi k/\v=.int .u32 (Xf a k)) (fun v i=>8-(intOf i).toNat)
 case atStart=>exact⟨0,by omega,rfl,rfl⟩
 case round=>
  obtain⟨k,hk,rfl,rfl⟩:=hrel
  by_cases hlt:k<8
  . have L:=El a k;have Y:(2:Int)^k<=2^7:=Ww k 7;have hs:Hd (Xf a (k+1)=Xf a k+btI a (7-(k:Int))*2^k):=GT a k hlt;have R:=X7 a (7-(k:Int));have ha:=Xp a (7-(k:Int));have hi:=JV _ k ha.1 ha.2
    have O:btI a (7-(k:Int))*2^k<=2^k:=by
     have:=Int.mul_le_mul_of_nonneg_right ha.2 (Int.le_of_lt (show(0:Int)<2^k from Int.pow_pos (by decide)))
     omega
    generalize Xf a k=t at *;generalize btI a (7-(k:Int))=b' at*
    go_wp2_with (go_at_call 130;refine Sm (R _) ?_)
    go_round
    case rel=>exact⟨k+1,by omega,by go_num,by rw[hs.o]⟩
    case measure=>simp[intOf];omega
  . have e:k=8:=by omega
    subst e;rw[<-MV a J (by omega)];obtain⟨r0,r1⟩:=Nc a J;have H:Hd (AC (w.alloc (.cells #[Vi a,Vi b,Vi c,Vi d] 155)) w.heap.size a b c d):=AC.new _ _ _ _ _ _;have h:Hd (Bw w (w.alloc (.cells #[Vi a,Vi b,Vi c,Vi d] 155))):=Zb _ _;go_wp2;generalize (w.alloc (.cells #[Vi a,Vi b,Vi c,Vi d] 155))=w1 at*
    go_loopw [4,6] (fun v i wr=>∃k:Nat,k<=2/\i=Vi k/\v=.int .u32 (Lib.rev8 a+low b k*256+low c k*536870912)/\AC wr w.heap.size a b c d/\Bw w wr) (fun v i _=>2-(intOf i).toNat)
    case atStart=>exact⟨0,by omega,rfl,by simp[low],H,h⟩
    case round=>
     clear H h;obtain⟨k,hk,rfl,rfl,hx,K⟩:=hrel;have H:Hd (AC wr w.heap.size a b c d):=hx;obtain⟨q0,q1,q2,q3,_⟩:=hx;have h:Hd (Bw w wr):=K;clear K
     by_cases hlt2:k<2
     . have M:=FO b k;have N:=FO c k;have Y:(2:Int)^k<=2^1:=Ww k 1;have hc:=No b k;have y:=No c k;have X:=X7 b k;have Q:=X7 c k;have P:=Xp b k;have D:=Xp c k
       rcases Qtw k with rfl|rfl
       . simp only[Int.reducePow,Int.pow_zero,Int.mul_one,Nat.zero_add] at hc y M N Y;generalize low b 0=t1 at *;generalize low c 0=t2 at *;simp only[Int.natCast_zero] at X Q P D hc y;generalize btI b 0=j at *;generalize btI c 0=m at *;have Z:Hd (low b 1=t1+j/\low c 1=t2+m):=⟨hc,y⟩;clear hc y;go_wp2
         go_quiet (first
          |(go_at_call_of 130 b;exact Calls.quiet_of_same (X _))
          |(go_at_call_of 130 c;exact Calls.quiet_of_same (Q _)))
         go_wp2;go_roundw
         case rel=>
          refine⟨1,by omega,by go_num,?_,H.o.lq (below_drewN (Below.refl _ _) _),below_drewN h.o _⟩;rw[Z.o.1,Z.o.2]
          (congr 1;omega)
         case measure=>simp[intOf]
       . simp only[Int.reducePow,Nat.reduceAdd] at hc y M N Y X Q P D;generalize low b 1=t1 at *;generalize low c 1=t2 at *;generalize btI b 1=j at *;generalize btI c 1=m at *;have Z:Hd (low b 2=t1+j*2/\low c 2=t2+m*2):=⟨hc,y⟩;clear hc y;go_wp2
         go_quiet (first
          |(go_at_call_of 130 b;exact Calls.quiet_of_same (X _))
          |(go_at_call_of 130 c;exact Calls.quiet_of_same (Q _)))
         go_wp2;go_roundw
         case rel=>
          refine⟨2,by omega,by go_num,?_,H.o.lq (below_drewN (Below.refl _ _) _),below_drewN h.o _⟩;rw[Z.o.1,Z.o.2]
          (congr 1;omega)
         case measure=>simp[intOf]
     . have e:k=2:=by omega
       subst e
       have j:low b 2=b:=by rw[Wn];simp only[Int.reducePow];omega
       have m:low c 2=c:=by rw[Wn];simp only[Int.reducePow];omega
       rw[j,m,show((2:Nat):Int)=2 from rfl];clear j m;generalize C:Lib.rev8 a=r at *;have U:Hd (Lib.rev8 a=r):=C;clear C;go_wp2
       go_loop [4,7] (fun v i=>∃k:Nat,k<=19/\i=Vi k/\v=.int .u32 (r+b*256+c*536870912+low d k*1024)) (fun v i=>19-(intOf i).toNat)
       case atStart=>exact⟨0,by omega,rfl,by simp[low]⟩
       case round=>
        obtain⟨k,hj,rfl,rfl⟩:=hrel
        by_cases hlt3:k<19
        . have L:=FO d k;have Y:(2:Int)^k<=2^18:=Ww k 18;have hs:Hd (low d (k+1)=low d k+btI d k*2^k):=No d k;have R:=X7 d k;have ha:=Xp d k;have A:=UP (btI d k) 10 k ha.1 ha.2
          have O:btI d k*2^k<=2^k:=by
           have:=Int.mul_le_mul_of_nonneg_right ha.2 (Int.le_of_lt (show(0:Int)<2^k from Int.pow_pos (by decide)))
           omega
          have hl:(10+(k:Int)).toNat=10+k:=by omega
          generalize low d k=t at *;generalize btI d k=b' at *;simp only[Int.reducePow] at A;generalize hz:b'*2^(10+k)=z at*
          go_wp2_with (go_at_call 130;refine Sm (R _) ?_)
          go_round
          case rel=>
           refine⟨k+1,by omega,by go_num,?_⟩;rw[hs.o,Int.add_mul]
           (congr 1;omega)
          case measure=>simp[intOf];omega
        . have e:k=19:=by omega
          subst e
          have E:low d 19=d:=by rw[Wn];simp only[Int.reducePow];omega
          have G:Hd (r+b*256+c*536870912+d*1024=Xa a b c d):=by
           show r+b*256+c*536870912+d*1024=Xa a b c d
           unfold Xa
           rw[U.o,I.o]
           omega
          have ho:=OR (r+b*256+c*536870912+d*1024) (by omega) (by omega);rw[E,show((19:Nat):Int)=19 from rfl];clear E
          by_cases hodd:AE (r+b*256+c*536870912+d*1024) 32%2=1
          . have T:Hd (Z7 a b c d=r+b*256+c*536870912+d*1024):=by
             show Z7 a b c d=_
             unfold Z7;rw[<-G.o,if_pos hodd]
            rw[decide_eq_true hodd] at ho;clear hodd G
            go_wp2_with (go_at_call 131;refine Sm (ho _) ?_);go_ret;exact⟨by rw[T.o];rfl,h⟩
          . have T:Hd (Z7 a b c d=r+b*256+c*536870912+d*1024+2147483648):=by
             show Z7 a b c d=_
             unfold Z7;rw[<-G.o,if_neg hodd]
            rw[decide_eq_false hodd] at ho;clear hodd G
            go_wp2_with (go_at_call 131;refine Sm (ho _) ?_);go_ret;exact⟨by rw[T.o];rfl,h⟩
theorem Jim(a b c d:Int)(h:BN a b c d=true)(w:V6):
 Va 74 #[.agg #[Vi a,Vi b,Vi c,Vi d]] w (Rt w (.int .u32 (Z7 a b c d))):=by
 by_cases hd:d<0
 . exact KO a b c d h hd w
 . exact KP a b c d h (by omega) w
theorem Jin(v:Int)(h0:0<=v)(h1:v<2147483648):AE (v+2147483648) 32=AE v 32+1:=by
 have h:=Nd (v+2147483648) 31 1;have y:=Nd v 31 1;have m1:=Ux (v+2147483648) 31 31 (Nat.le_refl _);have j:=Ux v 31 31 (Nat.le_refl _);simp only[Nat.reduceAdd,Int.reducePow] at h y m1 j;rw[show(v+2147483648)%2147483648=v by omega] at m1;rw[h,y,<-m1];simp only[AE,Int.pow_zero,Int.ediv_one]
 omega
theorem Jbz{b:Int}(h:BN a b c d=true):0<=Xa a b c d/\Xa a b c d<2147483648:=by
 obtain⟨⟨y,j⟩,⟨m,e⟩,⟨c0,c1⟩,d0,d1⟩:=N3 h;obtain⟨r0,r1⟩:=Nc a y
 unfold Xa
 omega
theorem Jb0{b:Int}(h:BN a b c d=true):0<=Z7 a b c d/\Z7 a b c d<4294967296:=by
 have:=Jbz h
 unfold Z7
 split<;>omega
theorem Jio{b:Int}(y:BN a b c d=true):AE (Z7 a b c d) 32%2=1:=by
 have h:=Jbz y
 unfold Z7
 split
 . assumption
 . rw[Jin _ h.1 h.2];omega
theorem Jej{b:Int}(y:BN a b c d=true):DS (Z7 a b c d)=.agg #[Vi a,Vi b,Vi c,Vi d]:=by
 obtain⟨⟨h,j⟩,⟨m,w⟩,⟨c0,c1⟩,d0,d1⟩:=N3 y;obtain⟨r0,r1⟩:=Nc a h
 have e:∃t,(t=0\/t=1)/\Z7 a b c d=Lib.rev8 a+b*256+d%524288*1024+c*536870912+t*2147483648:=by
  unfold Z7 Xa
  split
  . exact⟨0,.inl rfl,by omega⟩
  . exact⟨1,.inr rfl,by omega⟩
 obtain⟨t,H,e⟩:=e;rw[e]
 have l:BO (Lib.rev8 a+b*256+d%524288*1024+c*536870912+t*2147483648)=a:=by
  unfold BO
  rw[show(Lib.rev8 a+b*256+d%524288*1024+c*536870912+t*2147483648)%256=Lib.rev8 a by omega,Jlj a h (by omega)]
 have s:CN (Lib.rev8 a+b*256+d%524288*1024+c*536870912+t*2147483648)=b:=by unfold CN;omega
 have u:DR (Lib.rev8 a+b*256+d%524288*1024+c*536870912+t*2147483648)=c:=by unfold DR;omega
 have v:CY (Lib.rev8 a+b*256+d%524288*1024+c*536870912+t*2147483648)=d:=by
  unfold CY
  rw[show(Lib.rev8 a+b*256+d%524288*1024+c*536870912+t*2147483648)/1024%524288=d%524288 by omega]
  split<;>omega
 unfold DS
 rw[l,s,u,v]
end Go.Proofs.YtnepnnkdgejheaaGreatDoor
