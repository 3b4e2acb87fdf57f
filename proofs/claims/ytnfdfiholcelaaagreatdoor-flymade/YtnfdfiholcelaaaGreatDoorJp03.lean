import Derived.Lib.BitFns
import Derived.Laws.BitsAllLaws
import Derived.Laws.Bits128
import Derived.Test.YtnfdfiholcelaaaGreatDoorJp01
set_option maxRecDepth 100000
set_option maxHeartbeats 20000000
namespace Go.Proofs.YtnfdfiholcelaaaGreatDoor.Plain
set_option linter.unusedVariables false
def ones(n:Int):Nat→Int
 |0=>0
 |k+1=>ones n k+n/2^k%2
theorem Nl(n:Int):∀k,0≤ones n k
 |0=>Int.le_refl _
 |k+1=>by have:=Nl n k;simp only[ones];omega
theorem ones_le(n:Int):∀k:Nat,ones n k≤k
 |0=>by simp[ones]
 |k+1=>by have:=ones_le n k;simp only[ones];omega
def low(n:Int):Nat→Int
 |0=>0
 |k+1=>low n k+n/2^k%2*2^k
theorem X4(n:Int):∀k:Nat,low n k=n%2^k
 |0=>by simp[low]
 |k+1=>by
  have hp:(0:Int)<2^k:=Int.pow_pos (by decide);rw[low,X4 n k];have e1:=Int.mul_ediv_add_emod n (2^k);have e2:=Int.mul_ediv_add_emod (n/2^k) 2;have a0:=Int.emod_nonneg n (Int.ne_of_gt hp);have a1:=Int.emod_lt_of_pos n hp
  have b0:0≤n/2^k%2:=by omega
  have b1:n/2^k%2≤1:=by omega
  have e3:n=(2^(k+1))*(n/2^k/2)+(n%2^k+n/2^k%2*2^k):=by
   conv=>lhs;rw[←e1,←e2]
   rw[Int.pow_succ,Int.mul_add]
   have:(2:Int)^k*(2*(n/2^k/2))=2^k*2*(n/2^k/2):=by rw[Int.mul_assoc]
   rw[this,Int.mul_comm (n/2^k%2) (2^k)]
   omega
  have l1:n/2^k%2*2^k≤2^k:=by
   have:=Int.mul_le_mul_of_nonneg_right b1 (Int.le_of_lt hp)
   omega
  have l0:0≤n/2^k%2*2^k:=Int.mul_nonneg b0 (Int.le_of_lt hp)
  have hs:(2:Int)^(k+1)=2^k+2^k:=by rw[Int.pow_succ];omega
  have h:(n%2^k+n/2^k%2*2^k)%2^(k+1)=n%2^k+n/2^k%2*2^k:=Int.emod_eq_of_lt (by omega) (by omega)
  conv=>rhs;rw[e3]
  rw[Int.add_comm ((2:Int)^(k+1)*_),Int.add_mul_emod_self_left,h]
def turn(n:Int):Nat→Int
 |0=>0
 |k+1=>2*turn n k+n/2^k%2
def Y8(n:Int):Nat→Int
 |0=>0
 |k+1=>Y8 n k+n/2^(7-k)%2*2^k
theorem pop_byte:∀n:Fin 256,Lib.pop8 (n.val:Int)=ones (n.val:Int) 8:=by decide +kernel
theorem rev_byte:∀n:Fin 256,Lib.rev8 (n.val:Int)=turn (n.val:Int) 8:=by decide +kernel
theorem rev_up:∀n:Fin 256,Lib.rev8 (n.val:Int)=Y8 (n.val:Int) 8:=by decide +kernel
theorem rev_back:∀n:Fin 256,Lib.rev8 (Lib.rev8 (n.val:Int))=(n.val:Int):=by decide +kernel
theorem rev_lt:∀n:Fin 256,0≤Lib.rev8 (n.val:Int)∧Lib.rev8 (n.val:Int)≤255:=by decide +kernel
theorem pop_eq(b:Int)(h0:0≤b)(h1:b≤255):Lib.pop8 b=ones b 8:=by
 have:=pop_byte ⟨b.toNat,by omega⟩
 rwa[Int.toNat_of_nonneg h0] at this
theorem rev_eq(b:Int)(h0:0≤b)(h1:b≤255):Lib.rev8 b=turn b 8:=by
 have:=rev_byte ⟨b.toNat,by omega⟩
 rwa[Int.toNat_of_nonneg h0] at this
theorem rev_eq_up(b:Int)(h0:0≤b)(h1:b≤255):Lib.rev8 b=Y8 b 8:=by
 have:=rev_up ⟨b.toNat,by omega⟩
 rwa[Int.toNat_of_nonneg h0] at this
theorem rev_rev(b:Int)(h0:0≤b)(h1:b≤255):Lib.rev8 (Lib.rev8 b)=b:=by
 have:=rev_back ⟨b.toNat,by omega⟩
 rwa[Int.toNat_of_nonneg h0] at this
theorem Uh(b:Int)(h0:0≤b)(h1:b≤255):0≤Lib.rev8 b∧Lib.rev8 b≤255:=by
 have:=rev_lt ⟨b.toNat,by omega⟩
 rwa[Int.toNat_of_nonneg h0] at this
theorem div_pow_add(w:Int)(a j:Nat):w/2^a/2^j=w/2^(a+j):=by
 rw[Int.ediv_ediv_of_nonneg (Int.le_of_lt (Int.pow_pos (by decide))),Int.pow_add]
theorem Ui(w:Int)(a:Nat):∀b,ones w (a+b)=ones w a+ones (w/2^a) b
 |0=>by simp[ones]
 |b+1=>by rw[←Nat.add_assoc,ones,Ui w a b,ones,div_pow_add];omega
theorem bit_mod(w:Int)(k j:Nat)(h:j<k):w%2^k/2^j%2=w/2^j%2:=by
 have hp:(0:Int)<2^j:=Int.pow_pos (by decide);have e:=Int.mul_ediv_add_emod w (2^k);obtain⟨m,rfl⟩:∃m,k=j+1+m:=⟨k-j-1,by omega⟩
 conv=>rhs;rw[←e]
 have e2:(2:Int)^(j+1+m)*(w/2^(j+1+m))=2^j*(2*(2^m*(w/2^(j+1+m)))):=by
  rw[Int.pow_add,Int.pow_succ,Int.mul_assoc,Int.mul_assoc]
 rw[e2,Int.add_comm,Int.add_mul_ediv_left _ _ (Int.ne_of_gt hp)]
 omega
theorem Wz(w:Int)(k:Nat):∀j,j≤k→ones (w%2^k) j=ones w j
 |0,_=>rfl
 |j+1,h=>by rw[ones,ones,Wz w k j (by omega),bit_mod w k j (by omega)]
theorem ones_bytes(w:Int):ones w 32=ones (w/16777216%256) 8+ones (w/65536%256) 8+ones (w/256%256) 8+ones (w%256) 8:=by
 have e1:=Ui w 24 8;have e2:=Ui w 16 8;have e3:=Ui w 8 8;have m0:=Wz w 8 8 (Nat.le_refl _);have m1:=Wz (w/256) 8 8 (Nat.le_refl _);have m2:=Wz (w/65536) 8 8 (Nat.le_refl _);have m3:=Wz (w/16777216) 8 8 (Nat.le_refl _);simp only[Nat.reduceAdd,Int.reducePow] at e1 e2 e3 m0 m1 m2 m3
 omega
theorem turn_low(w:Int):turn (w%256) 8=turn w 8:=by
 simp only[turn,Int.reducePow,Int.pow_zero]
 omega
end Go.Proofs.YtnfdfiholcelaaaGreatDoor.Plain
namespace Go.Proofs.YtnfdfiholcelaaaGreatDoor
open Go.RowKit Plain Tryz
variable {a c d u x y z:Int}{b:Nat}{w w':World}
theorem i64_and1(n:Int):bits .and .i64 n 1=n%2:=by
 have h1:(BitVec.ofInt 64 1).toNat=2^1-1:=by decide
 have key:(BitVec.ofInt 64 n &&& BitVec.ofInt 64 1).toNat=(n%((2^64:Nat):Int)).toNat%2^1:=by
  rw[BitVec.toNat_and,BitVec.toNat_ofInt,h1,Nat.and_two_pow_sub_one_eq_mod]
 show IntKind.i64.wrap ((BitVec.ofInt 64 n &&& BitVec.ofInt 64 1).toNat:Nat)=n%2
 rw[key,IntKind.wrap_i64]
 omega
theorem bit_any(x i:Int)(h0:0≤i)(h1:i≤63)(w:World):
 Calls prog 126 #[Vi x,Vi i] w (Re w (Vi (x/2^i.toNat%2))):=by
 have hb:=i64_and1
 go_enter func126,ntmps126
 go_wp2;go_ret;exact⟨rfl,rfl⟩
theorem odd_any(x:Int)(h0:0≤x)(h1:x<4294967296)(w:World):
 Calls prog 90 #[.int .u32 x] w (Re w (.bool (decide (ones x 32%2=1)))):=by
 go_enter func90,ntmps90
 go_wp2
 go_loop [3,4] (fun n i=>∃k:Nat,k≤32∧i=Vi k∧n=Vi (ones x k)) (fun n i=>32-(intOf i).toNat)
 case atStart=>exact⟨0,by omega,rfl,rfl⟩
 case round=>
  obtain⟨k,hk,rfl,rfl⟩:=hrel;have o0:=Nl x k;have o1:=ones_le x k
  by_cases hlt:k<32
  · have hs:ones x (k+1)=ones x k+x/2^k%2:=rfl;generalize ones x k=n at*
    go_wp2_with (go_at_call 126;refine(bit_any _ _ (by omega) (by omega) _).mono ?_;rintro e w' ⟨rfl,rfl⟩)
    go_round
    case rel=>exact⟨k+1,by omega,by go_num,by rw[hs]⟩
    case measure=>simp[intOf];omega
  · have e:k=32:=by omega
    subst e;have hn:Hid (∃n,ones x 32=n):=⟨_,rfl⟩;obtain⟨n,hn⟩:=hn.out;have HN:Hid (ones x 32=n):=hn;rw[hn] at o0 o1⊢;clear hn;go_wp2;go_ret;exact⟨by rw[HN.out];by_cases h:n%2=1<;>simp[h],rfl⟩
theorem rev_any(x:Int)(h0:0≤x)(h1:x≤255)(w:World):
 Calls prog 134 #[.int .u8 x] w (Re w (.int .u8 (Lib.rev8 x))):=by
 go_enter func134,ntmps134
 go_wp2;go_ret;exact⟨rfl,rfl⟩
theorem Nm(b:Int)(h0:0≤b)(h1:b≤255):0≤Lib.pop8 b∧Lib.pop8 b≤8:=by
 rw[pop_eq b h0 h1];exact⟨Nl b 8,ones_le b 8⟩
theorem onesCount_any(x:Int)(h0:0≤x)(h1:x<4294967296)(w:World):
 Calls prog 194 #[.int .u32 x] w fun e w'=>e=.returned (Vi (ones x 32))∧∃k,w'=w.drewN k:=by
 have a0:0≤x/16777216∧x/16777216≤255:=by omega
 have a1:0≤x/65536%256∧x/65536%256≤255:=by omega
 have a2:0≤x/256%256∧x/256%256≤255:=by omega
 have a3:0≤x%256∧x%256≤255:=by omega
 have p0:=Nm _ a0.1 a0.2;have p1:=Nm _ a1.1 a1.2;have p2:=Nm _ a2.1 a2.2;have p3:=Nm _ a3.1 a3.2
 have e:ones x 32=Lib.pop8 (x/16777216)+Lib.pop8 (x/65536%256)+Lib.pop8 (x/256%256)+Lib.pop8 (x%256):=by
  rw[ones_bytes,pop_eq _ a0.1 a0.2,pop_eq _ a1.1 a1.2,pop_eq _ a2.1 a2.2,pop_eq _ a3.1 a3.2]
  have:x/16777216%256=x/16777216:=by omega
  rw[this]
 rw[e];clear e
 have m1:bits .and .u32 (x/65536) 255=x/65536%256:=by rw[u32_and _ _ (by omega) (by omega) (by omega) (by omega)];simp[nat_mask8];omega
 have m2:bits .and .u32 (x/256) 255=x/256%256:=by rw[u32_and _ _ (by omega) (by omega) (by omega) (by omega)];simp[nat_mask8];omega
 have m3:bits .and .u32 x 255=x%256:=by rw[u32_and _ _ (by omega) (by omega) (by omega) (by omega)];simp[nat_mask8];omega
 generalize hy0:x/16777216=y0 at *;generalize hy1:x/65536%256=y1 at *;generalize hy2:x/256%256=y2 at *;generalize hy3:x%256=y3 at*
 go_enter func194,ntmps194
 go_wp2;go_quiet (fail);go_wp2;go_ret;exact⟨rfl,_,rfl⟩
theorem isOdd_any(x:Int)(h0:0≤x)(h1:x<4294967296)(w:World):
 Calls prog 136 #[.int .u32 x] w fun e w'=>e=.returned (.bool (decide (ones x 32%2=1)))∧∃k,w'=w.drewN k:=by
 have hc:=onesCount_any x h0 h1;have o0:=Nl x 32;have o1:=ones_le x 32;generalize ones x 32=n at*
 go_enter func136,ntmps136
 go_wp2_with (go_at_call 194;refine(hc _).mono ?_;rintro e w' ⟨rfl,k,rfl⟩);go_ret;exact⟨by by_cases h:n%2=1<;>simp[h],_,rfl⟩
theorem fits_8(x:Int)(w:World):
 Calls prog 192 #[Vi x,Vi 8] w (Re w (.bool (decide (0≤x)&&decide (x<256)))):=by
 by_cases h0:0≤x
 · by_cases h1:x<256
   · rw[decide_eq_true h0,decide_eq_true h1]
     go_enter func192,ntmps192
     go_wp2;go_ret;exact⟨by simp,rfl⟩
   · rw[decide_eq_true h0,decide_eq_false h1]
     go_enter func192,ntmps192
     go_wp2;go_ret;exact⟨by simp,rfl⟩
 · rw[decide_eq_false h0]
   go_enter func192,ntmps192
   go_wp2;go_ret;exact⟨rfl,rfl⟩
theorem fits_2(x:Int)(w:World):
 Calls prog 192 #[Vi x,Vi 2] w (Re w (.bool (decide (0≤x)&&decide (x<4)))):=by
 by_cases h0:0≤x
 · by_cases h1:x<4
   · rw[decide_eq_true h0,decide_eq_true h1]
     go_enter func192,ntmps192
     go_wp2;go_ret;exact⟨by simp,rfl⟩
   · rw[decide_eq_true h0,decide_eq_false h1]
     go_enter func192,ntmps192
     go_wp2;go_ret;exact⟨by simp,rfl⟩
 · rw[decide_eq_false h0]
   go_enter func192,ntmps192
   go_wp2;go_ret;exact⟨rfl,rfl⟩
theorem signed_any(x:Int)(h0:0≤x)(h1:x<524288)(w:World):
 Calls prog 201 #[.int .u32 x] w (Re w (Vi (if 262143<x then x-524288 else x))):=by
 by_cases h:262143<x
 · rw[if_pos h]
   go_enter func201,ntmps201
   go_wp2;go_ret;exact⟨rfl,rfl⟩
 · rw[if_neg h]
   go_enter func201,ntmps201
   go_wp2;go_ret;exact⟨rfl,rfl⟩
theorem part_0_19(x:Int)(h0:0≤x)(h1:x<4294967296)(w:World):
 Calls prog 135 #[.int .u32 x,Vi 0,Vi 19] w fun e w'=>e=.returned (.int .u32 (x%524288))∧∃k,w'=w.drewN k:=by
 have m1:bits .and .u32 (x) 524287=x%524288:=by rw[u32_and _ _ (by omega) (by omega) (by omega) (by omega)];simp[nat_mask19];omega
 go_enter func135,ntmps135
 go_wp2;go_quiet (fail);go_wp2;go_ret;exact⟨by first|rfl|simp,_,rfl⟩
theorem part_8_2(x:Int)(h0:0≤x)(h1:x<4294967296)(w:World):
 Calls prog 135 #[.int .u32 x,Vi 8,Vi 2] w fun e w'=>e=.returned (.int .u32 (x/256%4))∧∃k,w'=w.drewN k:=by
 have m1:bits .and .u32 (x/256) 3=x/256%4:=by rw[u32_and _ _ (by omega) (by omega) (by omega) (by omega)];simp[nat_mask2];omega
 go_enter func135,ntmps135
 go_wp2;go_quiet (fail);go_wp2;go_ret;exact⟨by first|rfl|simp,_,rfl⟩
theorem part_29_2(x:Int)(h0:0≤x)(h1:x<4294967296)(w:World):
 Calls prog 135 #[.int .u32 x,Vi 29,Vi 2] w fun e w'=>e=.returned (.int .u32 (x/536870912%4))∧∃k,w'=w.drewN k:=by
 have m1:bits .and .u32 (x/536870912) 3=x/536870912%4:=by rw[u32_and _ _ (by omega) (by omega) (by omega) (by omega)];simp[nat_mask2];omega
 go_enter func135,ntmps135
 go_wp2;go_quiet (fail);go_wp2;go_ret;exact⟨by first|rfl|simp,_,rfl⟩
theorem part_10_19(x:Int)(h0:0≤x)(h1:x<4294967296)(w:World):
 Calls prog 135 #[.int .u32 x,Vi 10,Vi 19] w fun e w'=>e=.returned (.int .u32 (x/1024%524288))∧∃k,w'=w.drewN k:=by
 have m1:bits .and .u32 (x/1024) 524287=x/1024%524288:=by rw[u32_and _ _ (by omega) (by omega) (by omega) (by omega)];simp[nat_mask19];omega
 go_enter func135,ntmps135
 go_wp2;go_quiet (fail);go_wp2;go_ret;exact⟨by first|rfl|simp,_,rfl⟩
def mayR(a b c d:Int):Bool:=(decide (0≤a)&&decide (a<256))&&(decide (0≤b)&&decide (b<4))&&(decide (0≤c)&&decide (c<4))&&(decide (-262144≤d)&&decide (d<262144))
theorem U2{b:Int}(h:mayR a b c d=true):(0≤a∧a<256)∧(0≤b∧b<4)∧(0≤c∧c<4)∧-262144≤d∧d<262144:=by
 simp[mayR] at h;omega
theorem wHold_any(d:Int)(w:World):Calls prog 193 #[Vi d] w (Re w (Vi (Ze d (-262144) 262143))):=by
 go_enter func193,ntmps193
 go_wp2_with (go_at_call 172;refine(Yu _ _ _ _).mono ?_;rintro e w' ⟨rfl,rfl⟩);go_ret;exact⟨rfl,rfl⟩
theorem check_any(a b c d:Int)(w:World):
 Calls prog 133 #[.agg #[Vi a,Vi b,Vi c,Vi d]] w (Rt w (errV (if mayR a b c d then 0 else 1))):=by
 have f1:=fits_8 a;have f2:=fits_2 b;have f3:=fits_2 c;have hh:=wHold_any d
 have hd:(d != Ze d (-262144) 262143)=!(decide (-262144≤d)&&decide (d<262144)):=by
  unfold Ze
  by_cases h1:d< -262144
  · rw[if_pos h1,decide_eq_false (show ¬-262144≤d by omega)];simp;omega
  · rw[if_neg h1,if_neg (by omega),decide_eq_true (show -262144≤d by omega)]
    by_cases h2:262143<d
    · rw[if_pos h2,decide_eq_false (show ¬d<262144 by omega)];simp;omega
    · rw[if_neg h2,decide_eq_true (show d<262144 by omega)];simp
 unfold mayR
 generalize Ze d (-262144) 262143=k at *;generalize (decide (0≤a)&&decide (a<256))=x1 at *;generalize (decide (0≤b)&&decide (b<4))=x2 at *;generalize (decide (0≤c)&&decide (c<4))=x3 at *;generalize (decide (-262144≤d)&&decide (d<262144))=x4 at*
 rcases(show x1=false∨(x1=true∧x2=false)∨(x1=true∧x2=true∧x3=false)∨(x1=true∧x2=true∧x3=true∧x4=false)∨(x1=true∧x2=true∧x3=true∧x4=true) by cases x1<;>cases x2<;>cases x3<;>cases x4<;>simp) with rfl|⟨rfl,rfl⟩|⟨rfl,rfl,rfl⟩|⟨rfl,rfl,rfl,rfl⟩|⟨rfl,rfl,rfl,rfl⟩
 · go_enter func133,ntmps133
   go_wp2_with (first|((first|go_at_call_of 192 (Vi a)|go_at_call_of 192 (Value.int .i64 a));refine(f1 _).mono ?_;rintro e w' ⟨rfl,rfl⟩)|((first|go_at_call_of 192 (Vi b)|go_at_call_of 192 (Value.int .i64 b));refine(f2 _).mono ?_;rintro e w' ⟨rfl,rfl⟩)|((first|go_at_call_of 192 (Vi c)|go_at_call_of 192 (Value.int .i64 c));refine(f3 _).mono ?_;rintro e w' ⟨rfl,rfl⟩));go_ret;exact⟨rfl,Zb _ _⟩
 · go_enter func133,ntmps133
   go_wp2_with (first|((first|go_at_call_of 192 (Vi a)|go_at_call_of 192 (Value.int .i64 a));refine(f1 _).mono ?_;rintro e w' ⟨rfl,rfl⟩)|((first|go_at_call_of 192 (Vi b)|go_at_call_of 192 (Value.int .i64 b));refine(f2 _).mono ?_;rintro e w' ⟨rfl,rfl⟩)|((first|go_at_call_of 192 (Vi c)|go_at_call_of 192 (Value.int .i64 c));refine(f3 _).mono ?_;rintro e w' ⟨rfl,rfl⟩));go_ret;exact⟨rfl,Zb _ _⟩
 · go_enter func133,ntmps133
   go_wp2_with (first|((first|go_at_call_of 192 (Vi a)|go_at_call_of 192 (Value.int .i64 a));refine(f1 _).mono ?_;rintro e w' ⟨rfl,rfl⟩)|((first|go_at_call_of 192 (Vi b)|go_at_call_of 192 (Value.int .i64 b));refine(f2 _).mono ?_;rintro e w' ⟨rfl,rfl⟩)|((first|go_at_call_of 192 (Vi c)|go_at_call_of 192 (Value.int .i64 c));refine(f3 _).mono ?_;rintro e w' ⟨rfl,rfl⟩));go_ret;exact⟨rfl,Zb _ _⟩
 all_goals
  simp only[Bool.not_false,Bool.not_true] at hd
  go_enter func133,ntmps133
  go_wp2_with (first|((first|go_at_call_of 192 (Vi a)|go_at_call_of 192 (Value.int .i64 a));refine(f1 _).mono ?_;rintro e w' ⟨rfl,rfl⟩)|((first|go_at_call_of 192 (Vi b)|go_at_call_of 192 (Value.int .i64 b));refine(f2 _).mono ?_;rintro e w' ⟨rfl,rfl⟩)|((first|go_at_call_of 192 (Vi c)|go_at_call_of 192 (Value.int .i64 c));refine(f3 _).mono ?_;rintro e w' ⟨rfl,rfl⟩));go_quiet ((go_at_call 193;exact Calls.quiet_of_same (hh _)));go_wp2;go_ret;exact⟨rfl,below_drewN (Zb _ _) _⟩
def Y1(a b c d:Int):Int:=Lib.rev8 a+b*256+d%524288*1024+c*536870912
def Zz(a b c d:Int):Int:=if ones (Y1 a b c d) 32%2=1 then Y1 a b c d else Y1 a b c d+2147483648
theorem box4{b:Int}{T:TypeId}(hb:Below (w.alloc (.cells #[Vi a,Vi b,Vi c,Vi d] T)).heap.size (w.alloc (.cells #[Vi a,Vi b,Vi c,Vi d] T)) w'):
 Kc w' w.heap.size 0 (Vi a)∧Kc w' w.heap.size 1 (Vi b)∧Kc w' w.heap.size 2 (Vi c)∧Kc w' w.heap.size 3 (Vi d):=
 ⟨cell_later hb (by simp[go_sem]),cell_later hb (by simp[go_sem]),cell_later hb (by simp[go_sem]),cell_later hb (by simp[go_sem])⟩
theorem pack_yes(a b c d:Int)(hm:mayR a b c d=true)(w:World):
 Calls prog 84 #[.agg #[Vi a,Vi b,Vi c,Vi d]] w (Rt w (.tuple #[.int .u32 (Zz a b c d),.nilIface])):=by
 have hc:=check_any a b c d;rw[hm,if_pos rfl,Z2] at hc;obtain⟨⟨a0,a1⟩,⟨b0,b1⟩,⟨c0,c1⟩,d0,d1⟩:=U2 hm;obtain⟨r0,r1⟩:=Uh a a0 (by omega)
 have e1:bits .or .u32 (Lib.rev8 a) (b*256)=Lib.rev8 a+b*256:=by
  rw[u32_or _ _ r0 (by omega) (by omega) (by omega),Nat.or_comm,nat_join 8 _ _ (by omega) (by omega)];omega
 have e2:bits .or .u32 (Lib.rev8 a+b*256) (d%524288*1024)=Lib.rev8 a+b*256+d%524288*1024:=by
  rw[u32_or _ _ (by omega) (by omega) (by omega) (by omega),Nat.or_comm,nat_join 10 _ _ (by omega) (by omega)];omega
 have e3:bits .or .u32 (Lib.rev8 a+b*256+d%524288*1024) (c*536870912)=Lib.rev8 a+b*256+d%524288*1024+c*536870912:=by
  rw[u32_or _ _ (by omega) (by omega) (by omega) (by omega),Nat.or_comm,nat_join 29 _ _ (by omega) (by omega)];omega
 have e4:bits .or .u32 (Lib.rev8 a+b*256+d%524288*1024+c*536870912) 2147483648=Lib.rev8 a+b*256+d%524288*1024+c*536870912+2147483648:=by
  rw[u32_or _ _ (by omega) (by omega) (by omega) (by omega),Nat.or_comm,nat_join 31 _ _ (by omega) (by omega)];omega
 have ho:=isOdd_any (Y1 a b c d) (by unfold Y1;omega) (by unfold Y1;omega)
 by_cases hodd:ones (Y1 a b c d) 32%2=1
 · have hp:Zz a b c d=Lib.rev8 a+b*256+d%524288*1024+c*536870912:=by unfold Zz;rw[if_pos hodd];rfl
   rw[decide_eq_true hodd] at ho;rw[hp]
   unfold Y1 at ho
   clear hodd hp e4
   go_enter func84,ntmps84
   go_wp2_with (first
    |(go_at_call 133;refine Sb (hc _) fun w' hb=>?_;obtain⟨q0,q1,q2,q3⟩:=box4 hb;have HB:Hid (Below _ _ _):=hb;clear hb)
    |(go_at_call 134;refine(rev_any _ (by omega) (by omega) _).mono ?_;rintro e w' ⟨rfl,rfl⟩)
    |(go_at_call 135;refine(part_0_19 _ (by omega) (by omega) _).mono ?_;rintro e w' ⟨rfl,k,rfl⟩)
    |(go_at_call 136;refine(ho _).mono ?_;rintro e w' ⟨rfl,k2,rfl⟩))
   go_ret2;exact⟨rfl,below_drewN (Zc (Zb _ _) HB.out) _⟩
 · have hp:Zz a b c d=Lib.rev8 a+b*256+d%524288*1024+c*536870912+2147483648:=by unfold Zz;rw[if_neg hodd];rfl
   rw[decide_eq_false hodd] at ho;rw[hp]
   unfold Y1 at ho
   clear hodd hp
   go_enter func84,ntmps84
   go_wp2_with (first
    |(go_at_call 133;refine Sb (hc _) fun w' hb=>?_;obtain⟨q0,q1,q2,q3⟩:=box4 hb;have HB:Hid (Below _ _ _):=hb;clear hb)
    |(go_at_call 134;refine(rev_any _ (by omega) (by omega) _).mono ?_;rintro e w' ⟨rfl,rfl⟩)
    |(go_at_call 135;refine(part_0_19 _ (by omega) (by omega) _).mono ?_;rintro e w' ⟨rfl,k,rfl⟩)
    |(go_at_call 136;refine(ho _).mono ?_;rintro e w' ⟨rfl,k2,rfl⟩))
   go_ret2;exact⟨rfl,below_drewN (Zc (Zb _ _) HB.out) _⟩
def labI(x:Int):Int:=Lib.rev8 (x%256)
def srcI(x:Int):Int:=x/256%4
def staI(x:Int):Int:=x/536870912%4
def datI(x:Int):Int:=if 262143<x/1024%524288 then x/1024%524288-524288 else x/1024%524288
def readV(x:Int):Value:=.agg #[Vi (labI x),Vi (srcI x),Vi (staI x),Vi (datI x)]
def partI(x a b:Int):Int:=x/2^a.toNat%2^b.toNat
theorem part_of(x a b:Int)(h0:0≤x)(h1:x<4294967296)(h:(a=8∧b=2)∨(a=29∧b=2)∨(a=10∧b=19))(w:World):
 Calls prog 135 #[.int .u32 x,Vi a,Vi b] w fun e w'=>e=.returned (.int .u32 (partI x a b))∧∃k,w'=w.drewN k:=by
 rcases h with⟨rfl,rfl⟩|⟨rfl,rfl⟩|⟨rfl,rfl⟩
 · exact part_8_2 x h0 h1 w
 · exact part_29_2 x h0 h1 w
 · exact part_10_19 x h0 h1 w
def Box4(w:World)(b:Nat)(x y z u:Int):Prop:=
 Kc w b 0 (Vi x)∧Kc w b 1 (Vi y)∧Kc w b 2 (Vi z)∧Kc w b 3 (Vi u)
 ∧w.frozen? (Ad b 0)=false∧w.frozen? (Ad b 1)=false∧w.frozen? (Ad b 2)=false∧w.frozen? (Ad b 3)=false∧b<w.heap.size
theorem Box4.new(w:World)(x y z u:Int)(T:TypeId):Box4 (w.alloc (.cells #[Vi x,Vi y,Vi z,Vi u] T)) w.heap.size x y z u:=by
 refine⟨?_,?_,?_,?_,?_,?_,?_,?_,?_⟩<;>simp[go_sem]
theorem Box4.later(h:Box4 w b x y z u)(hb:Bw w w'):Box4 w' b x y z u:=by
 obtain⟨h1,h2,h3,h4,h5,h6,h7,h8,h9⟩:=h;exact⟨cell_later hb h1,cell_later hb h2,cell_later hb h3,cell_later hb h4,(hb.frozen (p:=⟨b,0,none⟩) h9).trans h5,(hb.frozen (p:=⟨b,1,none⟩) h9).trans h6,(hb.frozen (p:=⟨b,2,none⟩) h9).trans h7,(hb.frozen (p:=⟨b,3,none⟩) h9).trans h8,Nat.lt_of_lt_of_le h9 hb.size⟩
theorem Box4.set(h:Box4 w b x y z u)(p q r s:Int):
 Box4 ((((w.setCell (Ad b 0) (Vi p)).setCell (Ad b 1) (Vi q)).setCell (Ad b 2) (Vi r)).setCell (Ad b 3) (Vi s)) b p q r s:=by
 obtain⟨h1,h2,h3,h4,h5,h6,h7,h8,h9⟩:=h;exact⟨by simp[go_sem, *],by simp[go_sem, *],by simp[go_sem, *],by simp[go_sem, *],by simp[go_sem, *],by simp[go_sem, *],by simp[go_sem, *],by simp[go_sem, *],by simpa[go_sem] using h9⟩
theorem Box4.set0(h:Box4 w b x y z u)(p:Int):Box4 (w.setCell (Ad b 0) (Vi p)) b p y z u:=by
 obtain⟨h1,h2,h3,h4,h5,h6,h7,h8,h9⟩:=h;exact⟨by simp[go_sem, *],by simp[go_sem, *],by simp[go_sem, *],by simp[go_sem, *],by simp[go_sem, *],by simp[go_sem, *],by simp[go_sem, *],by simp[go_sem, *],by simpa[go_sem] using h9⟩
theorem Box4.set1(h:Box4 w b x y z u)(p:Int):Box4 (w.setCell (Ad b 1) (Vi p)) b x p z u:=by
 obtain⟨h1,h2,h3,h4,h5,h6,h7,h8,h9⟩:=h;exact⟨by simp[go_sem, *],by simp[go_sem, *],by simp[go_sem, *],by simp[go_sem, *],by simp[go_sem, *],by simp[go_sem, *],by simp[go_sem, *],by simp[go_sem, *],by simpa[go_sem] using h9⟩
theorem Box4.set2(h:Box4 w b x y z u)(p:Int):Box4 (w.setCell (Ad b 2) (Vi p)) b x y p u:=by
 obtain⟨h1,h2,h3,h4,h5,h6,h7,h8,h9⟩:=h;exact⟨by simp[go_sem, *],by simp[go_sem, *],by simp[go_sem, *],by simp[go_sem, *],by simp[go_sem, *],by simp[go_sem, *],by simp[go_sem, *],by simp[go_sem, *],by simpa[go_sem] using h9⟩
theorem Box4.set3(h:Box4 w b x y z u)(p:Int):Box4 (w.setCell (Ad b 3) (Vi p)) b x y z p:=by
 obtain⟨h1,h2,h3,h4,h5,h6,h7,h8,h9⟩:=h;exact⟨by simp[go_sem, *],by simp[go_sem, *],by simp[go_sem, *],by simp[go_sem, *],by simp[go_sem, *],by simp[go_sem, *],by simp[go_sem, *],by simp[go_sem, *],by simpa[go_sem] using h9⟩
theorem Box4.else{c o:Nat}{v:Value}(h:Box4 w b x y z u)(hc:c≠b):Box4 (w.setCell (Ad c o) v) b x y z u:=by
 obtain⟨h1,h2,h3,h4,h5,h6,h7,h8,h9⟩:=h;exact⟨(World.cell?_setCell_other _ _ _ _ (fun e=>hc (congrArg Addr.block e))).trans h1,(World.cell?_setCell_other _ _ _ _ (fun e=>hc (congrArg Addr.block e))).trans h2,(World.cell?_setCell_other _ _ _ _ (fun e=>hc (congrArg Addr.block e))).trans h3,(World.cell?_setCell_other _ _ _ _ (fun e=>hc (congrArg Addr.block e))).trans h4,by simp[go_sem,h5],by simp[go_sem,h6],by simp[go_sem,h7],by simp[go_sem,h8],by simpa[go_sem] using h9⟩
theorem Box4.drew(h:Box4 w b x y z u):Box4 w.drew b x y z u:=h.later (Below.refl _ _).drew
theorem Uj{B:Nat}{w0:World}(hb:Below B w0 w)(h:B≤b)(p q r s:Value):
 Below B w0 ((((w.setCell (Ad b 0) p).setCell (Ad b 1) q).setCell (Ad b 2) r).setCell (Ad b 3) s):=
 (((hb.setCell h _).setCell h _).setCell h _).setCell h _
theorem unpack_no(x:Int)(h0:0≤x)(h1:x<4294967296)(h:¬ones x 32%2=1)(w:World):
 Calls prog 148 #[.int .u32 x] w (Rt w (.tuple #[.agg #[Vi 0,Vi 0,Vi 0,Vi 0],errV 3])):=by
 have ho:=isOdd_any x h0 h1;rw[decide_eq_false h] at ho;rw[Z4 (by decide)];clear h
 go_enter func148,ntmps148
 go_wp2_with (go_at_call 136;refine(ho _).mono ?_;rintro e w' ⟨rfl,k2,rfl⟩);have HX:Hid (Box4 ((w.alloc (.cells #[Vi 0,Vi 0,Vi 0,Vi 0] 161)).drewN k2) w.heap.size 0 0 0 0):=(Box4.new w 0 0 0 0 161).later (below_drewN (Below.refl _ _) _);have HB:Hid (Bw w ((w.alloc (.cells #[Vi 0,Vi 0,Vi 0,Vi 0] 161)).drewN k2)):=below_drewN (Zb _ _) _;generalize ((w.alloc (.cells #[Vi 0,Vi 0,Vi 0,Vi 0] 161)).drewN k2)=w1 at *;have hx:=HX.out.set 0 0 0 0;have hb:=Uj HB.out (Nat.le_refl _) (Vi 0) (Vi 0) (Vi 0) (Vi 0);generalize ((((w1.setCell (Ad w.heap.size 0) (Vi 0)).setCell (Ad w.heap.size 1) (Vi 0)).setCell (Ad w.heap.size 2) (Vi 0)).setCell (Ad w.heap.size 3) (Vi 0))=w2 at *;obtain⟨c0,c1,c2,c3,_⟩:=hx;exact bodyPost_ret (v:=.tuple #[.agg #[Vi 0,Vi 0,Vi 0,Vi 0],.iface 44 (Vi 3)]) (by simp[results,results148,go_sem,c0,c1,c2,c3]) rfl ⟨rfl,hb⟩
theorem unpack_yes(x:Int)(h0:0≤x)(h1:x<4294967296)(h:ones x 32%2=1)(w:World):
 Calls prog 148 #[.int .u32 x] w (Rt w (.tuple #[readV x,.nilIface])):=by
 have ho:=isOdd_any x h0 h1;rw[decide_eq_true h] at ho;clear h;have hr:=rev_any (x%256) (by omega) (by omega);have rb:=Uh (x%256) (by omega) (by omega);have e1:partI x 8 2=x/256%4:=rfl;have e2:partI x 29 2=x/536870912%4:=rfl;have e3:partI x 10 19=x/1024%524288:=rfl;have hs:=signed_any (x/1024%524288) (by omega) (by omega)
 have b1:0≤x/256%4∧x/256%4<4:=by omega
 have b2:0≤x/536870912%4∧x/536870912%4<4:=by omega
 unfold readV labI srcI staI datI
 generalize (if 262143<x/1024%524288 then x/1024%524288-524288 else x/1024%524288)=dd at *;generalize x/1024%524288=d at *;generalize x/256%4=b at *;generalize x/536870912%4=c at *;generalize Lib.rev8 (x%256)=a at*
 go_enter func148,ntmps148
 go_wp2_with (first
  |(go_at_call 136;refine(ho _).mono ?_;rintro e w' ⟨rfl,k0,rfl⟩)
  |(go_at_call 134;refine(hr _).mono ?_;rintro e w' ⟨rfl,rfl⟩)
  |(go_at_call 201;refine(hs _).mono ?_;rintro e w' ⟨rfl,rfl⟩)
  |(go_at_call 135;refine(part_of _ _ _ h0 h1 (by decide) _).mono ?_;rintro e w' ⟨rfl,k1,rfl⟩))
 rename_i ka kb
 generalize k0+ka+kb+k1=k2;have HX:Hid (Box4 ((w.alloc (.cells #[Vi 0,Vi 0,Vi 0,Vi 0] 161)).drewN k2) w.heap.size 0 0 0 0):=(Box4.new w 0 0 0 0 161).later (below_drewN (Below.refl _ _) _);have HB:Hid (Bw w ((w.alloc (.cells #[Vi 0,Vi 0,Vi 0,Vi 0] 161)).drewN k2)):=below_drewN (Zb _ _) _;generalize ((w.alloc (.cells #[Vi 0,Vi 0,Vi 0,Vi 0] 161)).drewN k2)=w1 at *;have hx:=HX.out.set a b c dd;have hb:=Uj HB.out (Nat.le_refl _) (Vi a) (Vi b) (Vi c) (Vi dd);generalize ((((w1.setCell (Ad w.heap.size 0) (Vi a)).setCell (Ad w.heap.size 1) (Vi b)).setCell (Ad w.heap.size 2) (Vi c)).setCell (Ad w.heap.size 3) (Vi dd))=w2 at *;obtain⟨c0,c1,c2,c3,_⟩:=hx;exact bodyPost_ret (v:=.tuple #[.agg #[Vi a,Vi b,Vi c,Vi dd],.nilIface]) (by simp[results,results148,go_sem,c0,c1,c2,c3]) rfl ⟨rfl,hb⟩
theorem Wc(j k:Nat)(h:j≤k):(2:Int)^j≤2^k:=by
 have:(2:Nat)^j≤2^k:=Nat.pow_le_pow_right (by decide) h
 exact_mod_cast this
theorem turn_bounds(x:Int):∀k:Nat,0≤turn x k∧turn x k<2^k
 |0=>by simp[turn]
 |k+1=>by
  have h:=turn_bounds x k;rw[turn,Int.pow_succ]
  omega
theorem turn_le(x:Int)(k:Nat)(hk:k≤8):0≤turn x k∧turn x k≤255:=by
 have h:=turn_bounds x k;have:(2:Int)^k≤2^8:=Wc k 8 hk
 omega
theorem low_bounds(x:Int)(k:Nat)(hk:k≤18):0≤low x k∧low x k<262144:=by
 rw[X4];have hp:(0:Int)<2^k:=Int.pow_pos (by decide);have:=Int.emod_nonneg x (Int.ne_of_gt hp);have:=Int.emod_lt_of_pos x hp;have:(2:Int)^k≤2^18:=Wc k 18 hk
 omega
def btI(x i:Int):Int:=x/2^i.toNat%2
theorem Xg(x i:Int):0≤btI x i∧btI x i≤1:=by unfold btI;omega
theorem Xr(x i:Int)(h0:0≤i)(h1:i≤63)(w:World):
 Calls prog 126 #[Vi x,Vi i] w (Re w (Vi (btI x i))):=bit_any x i h0 h1 w
theorem low_step(x:Int)(k:Nat):low (x/1024) (k+1)=low (x/1024) k+btI x (10+(k:Int))*2^k:=by
 rw[low,btI,show(10+(k:Int)).toNat=10+k by omega,←div_pow_add]
 rfl
theorem turn_step(x:Int)(k:Nat):turn x (k+1)=2*turn x k+btI x k:=by rw[turn,btI];rfl
theorem src_bits(x:Int):btI x 8+2*btI x 9=srcI x:=by unfold btI srcI;simp only[Int.reduceToNat,Int.reducePow];omega
theorem sta_bits(x:Int):btI x 29+2*btI x 30=staI x:=by unfold btI staI;simp only[Int.reduceToNat,Int.reducePow];omega
theorem dat_bits(x:Int):low (x/1024) 18-btI x 28*262144=datI x:=by
 rw[X4];unfold btI datI;simp only[Int.reduceToNat,Int.reducePow];split<;>omega
theorem lab_turn(x:Int):turn x 8=labI x:=by
 unfold labI
 rw[rev_eq _ (by omega) (by omega),turn_low]
theorem shift_bd(b:Int)(k:Nat)(hk:k≤17)(h0:0≤b)(h1:b≤1):0≤b*2^k∧b*2^k≤131072:=by
 have hp:(0:Int)<2^k:=Int.pow_pos (by decide);have hm:(2:Int)^k≤2^17:=Wc k 17 hk;refine⟨Int.mul_nonneg h0 (Int.le_of_lt hp),?_⟩;have:=Int.mul_le_mul_of_nonneg_right h1 (Int.le_of_lt hp)
 omega
theorem readingOf_any(x:Int)(h0:0≤x)(h1:x<4294967296)(w:World):
 Calls prog 91 #[.int .u32 x] w (Rt w (readV x)):=by
 go_enter func91,ntmps91
 go_wp2
 go_loopw [5] (fun i wr=>∃k:Nat,k≤8∧i=Vi k∧Box4 wr w.heap.size 0 0 0 0∧Box4 wr (w.heap.size+1) (turn x k) 0 0 0∧Bw w wr) (fun i _=>8-(intOf i).toNat)
 case atStart=>
  refine⟨0,by omega,rfl,?_,?_,?_⟩
  · exact(Box4.new _ _ _ _ _ _).later (Zb _ _)
  · have:=Box4.new (w.alloc (.cells #[Vi 0,Vi 0,Vi 0,Vi 0] 161)) 0 0 0 0 161
    simpa[go_sem,turn] using this
  · exact Zc (Zb _ _) (Zb _ _)
 case round=>
  obtain⟨k,hk,rfl,hx,hy,hb⟩:=hrel
  by_cases hlt:k<8
  · have ht:=turn_le x k (by omega);have hs:Hid (turn x (k+1)=2*turn x k+btI x k):=turn_step x k;have HY:Hid (Box4 wr (w.heap.size+1) (turn x k) 0 0 0):=hy;have HX:Hid (Box4 wr w.heap.size 0 0 0 0):=hx;obtain⟨c0,c1,c2,c3,d0,d1,d2,d3,dl⟩:=hy;have hbt:=Xr x k (by omega) (by omega);have hbd:=Xg x k;clear hx;generalize turn x k=t at *;generalize btI x k=b at*
    have hw1:=Wr (2*t)
    have hw2:=Wr (2*t+b)
    go_wp2
    go_region_with (go_at_call 126;refine(hbt _).mono ?_;rintro e w' ⟨rfl,rfl⟩)
    all_goals
     go_wp2;go_roundw
     (case rel=>exact⟨k+1,by omega,by go_num,(HX.out.else (by omega)).drew,by rw[hs.out];exact(HY.out.set0 _).drew,(hb.setCell (by simp) _).drew⟩)
     (case measure=>simp[intOf];omega)
  · have e:k=8:=by omega
    subst e;rw[lab_turn] at hy
    have hl:0≤labI x∧labI x≤255:=by rw[←lab_turn];exact turn_le x 8 (by omega)
    have b8:=Xg x 8;have b9:=Xg x 9;have b29:=Xg x 29;have b30:=Xg x 30;have HS:Hid (btI x 8+2*btI x 9=srcI x∧btI x 29+2*btI x 30=staI x):=⟨src_bits x,sta_bits x⟩;have HY:Hid (Box4 wr (w.heap.size+1) (labI x) 0 0 0):=hy;have HX:Hid (Box4 wr w.heap.size 0 0 0 0):=hx;obtain⟨c0,c1,c2,c3,d0,d1,d2,d3,dl⟩:=hy;clear hx;have HB:Hid (Bw w wr):=hb;clear hb
    go_wp2_with (go_at_call 126;refine(Xr _ _ (by omega) (by omega) _).mono ?_;rintro e w' ⟨rfl,rfl⟩)
    go_loopw [6] (fun i wr2=>∃k:Nat,k≤18∧i=Vi k∧Box4 wr2 w.heap.size 0 0 0 0∧Box4 wr2 (w.heap.size+1) (labI x) (srcI x) (staI x) (low (x/1024) k)∧Bw w wr2) (fun i _=>18-(intOf i).toNat)
    case atStart=>
     refine⟨0,by omega,rfl,(HX.out.else (by omega)).else (by omega),?_,(HB.out.setCell (by simp) _).setCell (by simp) _⟩;rw[←HS.out.1,←HS.out.2];exact(HY.out.set1 _).set2 _
    case round=>
     rename_i wr2
     clear HX HY HB c0 c1 c2 c3 d0 d1 d2 d3 dl b8 b9 b29 b30;obtain⟨k,hk,rfl,hx,hy,hb⟩:=hrel
     by_cases hlt2:k<18
     · have ht:=low_bounds (x/1024) k (by omega);have hs:Hid (low (x/1024) (k+1)=low (x/1024) k+btI x (10+(k:Int))*2^k):=low_step x k;have hbt:=Xr x (10+(k:Int)) (by omega) (by omega);have hbd:=Xg x (10+(k:Int));have hsh:=shift_bd _ k (by omega) hbd.1 hbd.2;have HY:Hid (Box4 _ (w.heap.size+1) _ _ _ (low (x/1024) k)):=hy;have HX:Hid (Box4 _ w.heap.size 0 0 0 0):=hx;obtain⟨c0,c1,c2,c3,d0,d1,d2,d3,dl⟩:=hy;clear hx;generalize low (x/1024) k=t at *;generalize btI x (10+(k:Int))=b at*
       have hw0:=Wr (10+(k:Int))
       have hw1:=Wr (b*2^k)
       have hw2:=Wr (t+b*2^k)
       go_wp2
       go_region_with (go_at_call 126;refine(hbt _).mono ?_;rintro e w' ⟨rfl,rfl⟩)
       all_goals
        go_wp2;go_roundw
        (case rel=>exact⟨k+1,by omega,by go_num,(HX.out.else (by omega)).drew,by rw[hs.out];exact(HY.out.set3 _).drew,(hb.setCell (by simp) _).drew⟩)
        (case measure=>simp[intOf];omega)
     · have e:k=18:=by omega
       subst e;have hbt:=Xr x 28 (by omega) (by omega);have hbd:=Xg x 28;have ht:=low_bounds (x/1024) 18 (by omega);have HD:Hid (low (x/1024) 18-btI x 28*262144=datI x):=dat_bits x;have HY:Hid (Box4 _ (w.heap.size+1) _ _ _ (low (x/1024) 18)):=hy;have HX:Hid (Box4 _ w.heap.size 0 0 0 0):=hx;obtain⟨c0,c1,c2,c3,d0,d1,d2,d3,dl⟩:=hy;obtain⟨a0,a1,a2,a3,f0,f1,f2,f3,fl⟩:=hx;generalize low (x/1024) 18=t at *;generalize btI x 28=b at*
       have hw1:=Wr (b*262144)
       have hw2:=Wr (t-b*262144)
       go_wp2
       go_region_with (go_at_call 126;refine(hbt _).mono ?_;rintro e w' ⟨rfl,rfl⟩)
       all_goals
        go_wp2;exact bodyPost_ret (v:=.agg #[Vi (labI x),Vi (srcI x),Vi (staI x),Vi (t-b*262144)]) (by simp[results,results91,go_sem,a0,a1,a2,a3]) rfl ⟨by unfold readV;rw[←HD.out],by repeat (first|exact hb|apply Below.drew|(refine Below.setCell ?_ (by simp) _))⟩
theorem turnUp_step(x:Int)(k:Nat)(h:k<8):Y8 x (k+1)=Y8 x k+btI x (7-(k:Int))*2^k:=by
 rw[Y8,btI,show(7-(k:Int)).toNat=7-k by omega]
theorem Mq(x:Int):∀k:Nat,0≤Y8 x k∧Y8 x k<2^k
 |0=>by simp[Y8]
 |k+1=>by
  have h:=Mq x k;have hp:(0:Int)<2^k:=Int.pow_pos (by decide);rw[Y8,Int.pow_succ]
  have b0:0≤x/2^(7-k)%2:=by omega
  have b1:x/2^(7-k)%2≤1:=by omega
  have l1:=Int.mul_le_mul_of_nonneg_right b1 (Int.le_of_lt hp);have l0:=Int.mul_nonneg b0 (Int.le_of_lt hp)
  omega
theorem low_bd(x:Int)(k:Nat):0≤low x k∧low x k<2^k:=by
 rw[X4];have hp:(0:Int)<2^k:=Int.pow_pos (by decide);exact⟨Int.emod_nonneg x (Int.ne_of_gt hp),Int.emod_lt_of_pos x hp⟩
theorem Ut(x:Int)(k:Nat):low x (k+1)=low x k+btI x k*2^k:=by rw[low,btI];rfl
theorem shift_up(b:Int)(j k:Nat)(h0:0≤b)(h1:b≤1):0≤b*2^(j+k)∧b*2^(j+k)≤2^(j+k)∧b*2^(j+k)=b*2^k*2^j:=by
 have hp:(0:Int)<2^(j+k):=Int.pow_pos (by decide);refine⟨Int.mul_nonneg h0 (Int.le_of_lt hp),?_,?_⟩
 · have:=Int.mul_le_mul_of_nonneg_right h1 (Int.le_of_lt hp)
   omega
 · rw[Int.pow_add,Int.mul_assoc,Int.mul_comm (2^j)]
theorem word_below(a b c d:Int)(hm:mayR a b c d=true)(hd:d<0)(w:World):
 Calls prog 72 #[.agg #[Vi a,Vi b,Vi c,Vi d]] w (Rt w (.int .u32 (Zz a b c d))):=by
 obtain⟨⟨a0,a1⟩,⟨b0,b1⟩,⟨c0,c1⟩,d0,d1⟩:=U2 hm
 have HY:Hid ((d+524288)=d%524288):=by show(d+524288)=d%524288;omega
 have hw:=Wr (d+524288)
 go_enter func72,ntmps72
 go_wp2
 go_loop [4,5] (fun v i=>∃k:Nat,k≤8∧i=Vi k∧v=.int .u32 (Y8 a k)) (fun v i=>8-(intOf i).toNat)
 case atStart=>exact⟨0,by omega,rfl,rfl⟩
 case round=>
  obtain⟨k,hk,rfl,rfl⟩:=hrel
  by_cases hlt:k<8
  · have ht:=Mq a k;have hp:(2:Int)^k≤2^7:=Wc k 7 (by omega);have hs:Hid (Y8 a (k+1)=Y8 a k+btI a (7-(k:Int))*2^k):=turnUp_step a k hlt;have hbt:=Xr a (7-(k:Int)) (by omega) (by omega);have hbd:=Xg a (7-(k:Int));have hsh:=shift_bd _ k (by omega) hbd.1 hbd.2
    have hb2:btI a (7-(k:Int))*2^k≤2^k:=by
     have:=Int.mul_le_mul_of_nonneg_right hbd.2 (Int.le_of_lt (show(0:Int)<2^k from Int.pow_pos (by decide)))
     omega
    generalize Y8 a k=t at *;generalize btI a (7-(k:Int))=b' at*
    go_wp2_with (go_at_call 126;refine Sm (hbt _) ?_)
    go_round
    case rel=>exact⟨k+1,by omega,by go_num,by rw[hs.out]⟩
    case measure=>simp[intOf];omega
  · have e:k=8:=by omega
    subst e;rw[←rev_eq_up a a0 (by omega)];obtain⟨r0,r1⟩:=Uh a a0 (by omega);have HX:Hid (Box4 (w.alloc (.cells #[Vi a,Vi b,Vi c,Vi d] 161)) w.heap.size a b c d):=Box4.new _ _ _ _ _ _;have HB:Hid (Bw w (w.alloc (.cells #[Vi a,Vi b,Vi c,Vi d] 161))):=Zb _ _;go_wp2;generalize (w.alloc (.cells #[Vi a,Vi b,Vi c,Vi d] 161))=w1 at*
    go_loopw [4,6] (fun v i wr=>∃k:Nat,k≤2∧i=Vi k∧v=.int .u32 (Lib.rev8 a+low b k*256+low c k*536870912)∧Box4 wr w.heap.size a b c d∧Bw w wr) (fun v i _=>2-(intOf i).toNat)
    case atStart=>exact⟨0,by omega,rfl,by simp[low],HX,HB⟩
    case round=>
     clear HX HB;obtain⟨k,hk,rfl,rfl,hx,hb⟩:=hrel;have HX:Hid (Box4 wr w.heap.size a b c d):=hx;obtain⟨q0,q1,q2,q3,_⟩:=hx;have HB:Hid (Bw w wr):=hb;clear hb
     by_cases hlt2:k<2
     · have l0:=low_bd b k;have l1:=low_bd c k;have hp:(2:Int)^k≤2^1:=Wc k 1 (by omega);have hs1:=Ut b k;have hs2:=Ut c k;have f1:=Xr b k (by omega) (by omega);have f2:=Xr c k (by omega) (by omega);have g1:=Xg b k;have g2:=Xg c k
       rcases Qtw k with rfl|rfl
       · simp only[Int.reducePow,Int.pow_zero,Int.mul_one,Nat.zero_add] at hs1 hs2 l0 l1 hp;generalize low b 0=t1 at *;generalize low c 0=t2 at *;simp only[Int.natCast_zero] at f1 f2 g1 g2 hs1 hs2;generalize btI b 0=e1 at *;generalize btI c 0=e2 at *;have HS:Hid (low b 1=t1+e1∧low c 1=t2+e2):=⟨hs1,hs2⟩;clear hs1 hs2;go_wp2
         go_quiet (first
          |((first|go_at_call_of 126 (Vi b)|go_at_call_of 126 (Value.int .i64 b));exact Calls.quiet_of_same (f1 _))
          |((first|go_at_call_of 126 (Vi c)|go_at_call_of 126 (Value.int .i64 c));exact Calls.quiet_of_same (f2 _)))
         go_wp2;go_roundw
         case rel=>
          refine⟨1,by omega,by go_num,?_,HX.out.later (below_drewN (Below.refl _ _) _),below_drewN HB.out _⟩;rw[HS.out.1,HS.out.2]
          (congr 1;omega)
         case measure=>simp[intOf]
       · simp only[Int.reducePow,Nat.reduceAdd] at hs1 hs2 l0 l1 hp f1 f2 g1 g2;generalize low b 1=t1 at *;generalize low c 1=t2 at *;generalize btI b 1=e1 at *;generalize btI c 1=e2 at *;have HS:Hid (low b 2=t1+e1*2∧low c 2=t2+e2*2):=⟨hs1,hs2⟩;clear hs1 hs2;go_wp2
         go_quiet (first
          |((first|go_at_call_of 126 (Vi b)|go_at_call_of 126 (Value.int .i64 b));exact Calls.quiet_of_same (f1 _))
          |((first|go_at_call_of 126 (Vi c)|go_at_call_of 126 (Value.int .i64 c));exact Calls.quiet_of_same (f2 _)))
         go_wp2;go_roundw
         case rel=>
          refine⟨2,by omega,by go_num,?_,HX.out.later (below_drewN (Below.refl _ _) _),below_drewN HB.out _⟩;rw[HS.out.1,HS.out.2]
          (congr 1;omega)
         case measure=>simp[intOf]
     · have e:k=2:=by omega
       subst e
       have e1:low b 2=b:=by rw[X4];simp only[Int.reducePow];omega
       have e2:low c 2=c:=by rw[X4];simp only[Int.reducePow];omega
       rw[e1,e2,show((2:Nat):Int)=2 from rfl];clear e1 e2;generalize hr:Lib.rev8 a=r at *;have HR:Hid (Lib.rev8 a=r):=hr;clear hr;go_wp2
       go_loop [4,7] (fun v i=>∃k:Nat,k≤19∧i=Vi k∧v=.int .u32 (r+b*256+c*536870912+low (d+524288) k*1024)) (fun v i=>19-(intOf i).toNat)
       case atStart=>exact⟨0,by omega,rfl,by simp[low]⟩
       case round=>
        obtain⟨k,hk3,rfl,rfl⟩:=hrel
        by_cases hlt3:k<19
        · have ht:=low_bd (d+524288) k;have hp:(2:Int)^k≤2^18:=Wc k 18 (by omega);have hs:Hid (low (d+524288) (k+1)=low (d+524288) k+btI (d+524288) k*2^k):=Ut (d+524288) k;have hbt:=Xr (d+524288) k (by omega) (by omega);have hbd:=Xg (d+524288) k;have hsu:=shift_up (btI (d+524288) k) 10 k hbd.1 hbd.2
          have hb2:btI (d+524288) k*2^k≤2^k:=by
           have:=Int.mul_le_mul_of_nonneg_right hbd.2 (Int.le_of_lt (show(0:Int)<2^k from Int.pow_pos (by decide)))
           omega
          have hpw:(10+(k:Int)).toNat=10+k:=by omega
          generalize low (d+524288) k=t at *;generalize btI (d+524288) k=b' at *;simp only[Int.reducePow] at hsu;generalize hz:b'*2^(10+k)=z at*
          go_wp2_with (go_at_call 126;refine(hbt _).mono ?_;rintro e w' ⟨rfl,rfl⟩)
          go_round
          case rel=>
           refine⟨k+1,by omega,by go_num,?_⟩;rw[hs.out,Int.add_mul]
           (congr 1;omega)
          case measure=>simp[intOf];omega
        · have e:k=19:=by omega
          subst e
          have el:low (d+524288) 19=(d+524288):=by rw[X4];simp only[Int.reducePow];omega
          have hB:Hid (r+b*256+c*536870912+(d+524288)*1024=Y1 a b c d):=by
           show r+b*256+c*536870912+(d+524288)*1024=Y1 a b c d
           unfold Y1
           rw[HR.out,HY.out]
           omega
          have ho:=odd_any (r+b*256+c*536870912+(d+524288)*1024) (by omega) (by omega);rw[el,show((19:Nat):Int)=19 from rfl];clear el
          by_cases hodd:ones (r+b*256+c*536870912+(d+524288)*1024) 32%2=1
          · have HP:Hid (Zz a b c d=r+b*256+c*536870912+(d+524288)*1024):=by
             show Zz a b c d=_
             unfold Zz;rw[←hB.out,if_pos hodd]
            rw[decide_eq_true hodd] at ho;clear hodd hB
            go_wp2_with (go_at_call 90;refine(ho _).mono ?_;rintro e w' ⟨rfl,rfl⟩);go_ret;exact⟨by rw[HP.out];rfl,HB⟩
          · have HP:Hid (Zz a b c d=r+b*256+c*536870912+(d+524288)*1024+2147483648):=by
             show Zz a b c d=_
             unfold Zz;rw[←hB.out,if_neg hodd]
            rw[decide_eq_false hodd] at ho;clear hodd hB
            go_wp2_with (go_at_call 90;refine(ho _).mono ?_;rintro e w' ⟨rfl,rfl⟩);go_ret;exact⟨by rw[HP.out];rfl,HB⟩
theorem word_above(a b c d:Int)(hm:mayR a b c d=true)(hd:0≤d)(w:World):
 Calls prog 72 #[.agg #[Vi a,Vi b,Vi c,Vi d]] w (Rt w (.int .u32 (Zz a b c d))):=by
 obtain⟨⟨a0,a1⟩,⟨b0,b1⟩,⟨c0,c1⟩,d0,d1⟩:=U2 hm
 have HY:Hid (d=d%524288):=by show d=d%524288;omega
 go_enter func72,ntmps72
 go_wp2
 go_loop [4,5] (fun v i=>∃k:Nat,k≤8∧i=Vi k∧v=.int .u32 (Y8 a k)) (fun v i=>8-(intOf i).toNat)
 case atStart=>exact⟨0,by omega,rfl,rfl⟩
 case round=>
  obtain⟨k,hk,rfl,rfl⟩:=hrel
  by_cases hlt:k<8
  · have ht:=Mq a k;have hp:(2:Int)^k≤2^7:=Wc k 7 (by omega);have hs:Hid (Y8 a (k+1)=Y8 a k+btI a (7-(k:Int))*2^k):=turnUp_step a k hlt;have hbt:=Xr a (7-(k:Int)) (by omega) (by omega);have hbd:=Xg a (7-(k:Int));have hsh:=shift_bd _ k (by omega) hbd.1 hbd.2
    have hb2:btI a (7-(k:Int))*2^k≤2^k:=by
     have:=Int.mul_le_mul_of_nonneg_right hbd.2 (Int.le_of_lt (show(0:Int)<2^k from Int.pow_pos (by decide)))
     omega
    generalize Y8 a k=t at *;generalize btI a (7-(k:Int))=b' at*
    go_wp2_with (go_at_call 126;refine Sm (hbt _) ?_)
    go_round
    case rel=>exact⟨k+1,by omega,by go_num,by rw[hs.out]⟩
    case measure=>simp[intOf];omega
  · have e:k=8:=by omega
    subst e;rw[←rev_eq_up a a0 (by omega)];obtain⟨r0,r1⟩:=Uh a a0 (by omega);have HX:Hid (Box4 (w.alloc (.cells #[Vi a,Vi b,Vi c,Vi d] 161)) w.heap.size a b c d):=Box4.new _ _ _ _ _ _;have HB:Hid (Bw w (w.alloc (.cells #[Vi a,Vi b,Vi c,Vi d] 161))):=Zb _ _;go_wp2;generalize (w.alloc (.cells #[Vi a,Vi b,Vi c,Vi d] 161))=w1 at*
    go_loopw [4,6] (fun v i wr=>∃k:Nat,k≤2∧i=Vi k∧v=.int .u32 (Lib.rev8 a+low b k*256+low c k*536870912)∧Box4 wr w.heap.size a b c d∧Bw w wr) (fun v i _=>2-(intOf i).toNat)
    case atStart=>exact⟨0,by omega,rfl,by simp[low],HX,HB⟩
    case round=>
     clear HX HB;obtain⟨k,hk,rfl,rfl,hx,hb⟩:=hrel;have HX:Hid (Box4 wr w.heap.size a b c d):=hx;obtain⟨q0,q1,q2,q3,_⟩:=hx;have HB:Hid (Bw w wr):=hb;clear hb
     by_cases hlt2:k<2
     · have l0:=low_bd b k;have l1:=low_bd c k;have hp:(2:Int)^k≤2^1:=Wc k 1 (by omega);have hs1:=Ut b k;have hs2:=Ut c k;have f1:=Xr b k (by omega) (by omega);have f2:=Xr c k (by omega) (by omega);have g1:=Xg b k;have g2:=Xg c k
       rcases Qtw k with rfl|rfl
       · simp only[Int.reducePow,Int.pow_zero,Int.mul_one,Nat.zero_add] at hs1 hs2 l0 l1 hp;generalize low b 0=t1 at *;generalize low c 0=t2 at *;simp only[Int.natCast_zero] at f1 f2 g1 g2 hs1 hs2;generalize btI b 0=e1 at *;generalize btI c 0=e2 at *;have HS:Hid (low b 1=t1+e1∧low c 1=t2+e2):=⟨hs1,hs2⟩;clear hs1 hs2;go_wp2
         go_quiet (first
          |((first|go_at_call_of 126 (Vi b)|go_at_call_of 126 (Value.int .i64 b));exact Calls.quiet_of_same (f1 _))
          |((first|go_at_call_of 126 (Vi c)|go_at_call_of 126 (Value.int .i64 c));exact Calls.quiet_of_same (f2 _)))
         go_wp2;go_roundw
         case rel=>
          refine⟨1,by omega,by go_num,?_,HX.out.later (below_drewN (Below.refl _ _) _),below_drewN HB.out _⟩;rw[HS.out.1,HS.out.2]
          (congr 1;omega)
         case measure=>simp[intOf]
       · simp only[Int.reducePow,Nat.reduceAdd] at hs1 hs2 l0 l1 hp f1 f2 g1 g2;generalize low b 1=t1 at *;generalize low c 1=t2 at *;generalize btI b 1=e1 at *;generalize btI c 1=e2 at *;have HS:Hid (low b 2=t1+e1*2∧low c 2=t2+e2*2):=⟨hs1,hs2⟩;clear hs1 hs2;go_wp2
         go_quiet (first
          |((first|go_at_call_of 126 (Vi b)|go_at_call_of 126 (Value.int .i64 b));exact Calls.quiet_of_same (f1 _))
          |((first|go_at_call_of 126 (Vi c)|go_at_call_of 126 (Value.int .i64 c));exact Calls.quiet_of_same (f2 _)))
         go_wp2;go_roundw
         case rel=>
          refine⟨2,by omega,by go_num,?_,HX.out.later (below_drewN (Below.refl _ _) _),below_drewN HB.out _⟩;rw[HS.out.1,HS.out.2]
          (congr 1;omega)
         case measure=>simp[intOf]
     · have e:k=2:=by omega
       subst e
       have e1:low b 2=b:=by rw[X4];simp only[Int.reducePow];omega
       have e2:low c 2=c:=by rw[X4];simp only[Int.reducePow];omega
       rw[e1,e2,show((2:Nat):Int)=2 from rfl];clear e1 e2;generalize hr:Lib.rev8 a=r at *;have HR:Hid (Lib.rev8 a=r):=hr;clear hr;go_wp2
       go_loop [4,7] (fun v i=>∃k:Nat,k≤19∧i=Vi k∧v=.int .u32 (r+b*256+c*536870912+low d k*1024)) (fun v i=>19-(intOf i).toNat)
       case atStart=>exact⟨0,by omega,rfl,by simp[low]⟩
       case round=>
        obtain⟨k,hk3,rfl,rfl⟩:=hrel
        by_cases hlt3:k<19
        · have ht:=low_bd d k;have hp:(2:Int)^k≤2^18:=Wc k 18 (by omega);have hs:Hid (low d (k+1)=low d k+btI d k*2^k):=Ut d k;have hbt:=Xr d k (by omega) (by omega);have hbd:=Xg d k;have hsu:=shift_up (btI d k) 10 k hbd.1 hbd.2
          have hb2:btI d k*2^k≤2^k:=by
           have:=Int.mul_le_mul_of_nonneg_right hbd.2 (Int.le_of_lt (show(0:Int)<2^k from Int.pow_pos (by decide)))
           omega
          have hpw:(10+(k:Int)).toNat=10+k:=by omega
          generalize low d k=t at *;generalize btI d k=b' at *;simp only[Int.reducePow] at hsu;generalize hz:b'*2^(10+k)=z at*
          go_wp2_with (go_at_call 126;refine(hbt _).mono ?_;rintro e w' ⟨rfl,rfl⟩)
          go_round
          case rel=>
           refine⟨k+1,by omega,by go_num,?_⟩;rw[hs.out,Int.add_mul]
           (congr 1;omega)
          case measure=>simp[intOf];omega
        · have e:k=19:=by omega
          subst e
          have el:low d 19=d:=by rw[X4];simp only[Int.reducePow];omega
          have hB:Hid (r+b*256+c*536870912+d*1024=Y1 a b c d):=by
           show r+b*256+c*536870912+d*1024=Y1 a b c d
           unfold Y1
           rw[HR.out,HY.out]
           omega
          have ho:=odd_any (r+b*256+c*536870912+d*1024) (by omega) (by omega);rw[el,show((19:Nat):Int)=19 from rfl];clear el
          by_cases hodd:ones (r+b*256+c*536870912+d*1024) 32%2=1
          · have HP:Hid (Zz a b c d=r+b*256+c*536870912+d*1024):=by
             show Zz a b c d=_
             unfold Zz;rw[←hB.out,if_pos hodd]
            rw[decide_eq_true hodd] at ho;clear hodd hB
            go_wp2_with (go_at_call 90;refine(ho _).mono ?_;rintro e w' ⟨rfl,rfl⟩);go_ret;exact⟨by rw[HP.out];rfl,HB⟩
          · have HP:Hid (Zz a b c d=r+b*256+c*536870912+d*1024+2147483648):=by
             show Zz a b c d=_
             unfold Zz;rw[←hB.out,if_neg hodd]
            rw[decide_eq_false hodd] at ho;clear hodd hB
            go_wp2_with (go_at_call 90;refine(ho _).mono ?_;rintro e w' ⟨rfl,rfl⟩);go_ret;exact⟨by rw[HP.out];rfl,HB⟩
theorem word_any(a b c d:Int)(hm:mayR a b c d=true)(w:World):
 Calls prog 72 #[.agg #[Vi a,Vi b,Vi c,Vi d]] w (Rt w (.int .u32 (Zz a b c d))):=by
 by_cases hd:d<0
 · exact word_below a b c d hm hd w
 · exact word_above a b c d hm (by omega) w
theorem ones_top(v:Int)(h0:0≤v)(h1:v<2147483648):ones (v+2147483648) 32=ones v 32+1:=by
 have e1:=Ui (v+2147483648) 31 1;have e2:=Ui v 31 1;have m1:=Wz (v+2147483648) 31 31 (Nat.le_refl _);have m2:=Wz v 31 31 (Nat.le_refl _);simp only[Nat.reduceAdd,Int.reducePow] at e1 e2 m1 m2;rw[show(v+2147483648)%2147483648=v by omega] at m1;rw[e1,e2,←m1];simp only[ones,Int.pow_zero,Int.ediv_one]
 omega
theorem body_bd{b:Int}(hm:mayR a b c d=true):0≤Y1 a b c d∧Y1 a b c d<2147483648:=by
 obtain⟨⟨a0,a1⟩,⟨b0,b1⟩,⟨c0,c1⟩,d0,d1⟩:=U2 hm;obtain⟨r0,r1⟩:=Uh a a0 (by omega)
 unfold Y1
 omega
theorem pack_bd{b:Int}(hm:mayR a b c d=true):0≤Zz a b c d∧Zz a b c d<4294967296:=by
 have:=body_bd hm
 unfold Zz
 split<;>omega
theorem pack_odd{b:Int}(hm:mayR a b c d=true):ones (Zz a b c d) 32%2=1:=by
 have hb:=body_bd hm
 unfold Zz
 split
 · assumption
 · rw[ones_top _ hb.1 hb.2];omega
theorem pack_read{b:Int}(hm:mayR a b c d=true):readV (Zz a b c d)=.agg #[Vi a,Vi b,Vi c,Vi d]:=by
 obtain⟨⟨a0,a1⟩,⟨b0,b1⟩,⟨c0,c1⟩,d0,d1⟩:=U2 hm;obtain⟨r0,r1⟩:=Uh a a0 (by omega)
 have e:∃t,(t=0∨t=1)∧Zz a b c d=Lib.rev8 a+b*256+d%524288*1024+c*536870912+t*2147483648:=by
  unfold Zz Y1
  split
  · exact⟨0,.inl rfl,by omega⟩
  · exact⟨1,.inr rfl,by omega⟩
 obtain⟨t,ht,e⟩:=e;rw[e]
 have l:labI (Lib.rev8 a+b*256+d%524288*1024+c*536870912+t*2147483648)=a:=by
  unfold labI
  rw[show(Lib.rev8 a+b*256+d%524288*1024+c*536870912+t*2147483648)%256=Lib.rev8 a by omega,rev_rev a a0 (by omega)]
 have s:srcI (Lib.rev8 a+b*256+d%524288*1024+c*536870912+t*2147483648)=b:=by unfold srcI;omega
 have u:staI (Lib.rev8 a+b*256+d%524288*1024+c*536870912+t*2147483648)=c:=by unfold staI;omega
 have v:datI (Lib.rev8 a+b*256+d%524288*1024+c*536870912+t*2147483648)=d:=by
  unfold datI
  rw[show(Lib.rev8 a+b*256+d%524288*1024+c*536870912+t*2147483648)/1024%524288=d%524288 by omega]
  split<;>omega
 unfold readV
 rw[l,s,u,v]
end Go.Proofs.YtnfdfiholcelaaaGreatDoor
