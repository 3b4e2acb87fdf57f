import Derived.OwnWalk
import Derived.Test.YtnfdfiholcelaaaGreatDoorJh00
import Derived.Test.YtnfdfiholcelaaaGreatDoorJh01
import Derived.Test.YtnfdfiholcelaaaGreatDoorJh04
import Derived.Test.YtnfdfiholcelaaaGreatDoorJh06
import Derived.Test.YtnfdfiholcelaaaGreatDoorJh09
import Derived.Test.YtnfdfiholcelaaaGreatDoorJh15
import Derived.Test.YtnfdfiholcelaaaGreatDoorJh22
import Derived.Test.YtnfdfiholcelaaaGreatDoorJh24
set_option maxRecDepth 100000
set_option maxHeartbeats 20000000
namespace Go.Proofs.YtnfdfiholcelaaaGreatDoor
open Go.RowKit Plain Tryz
theorem turnUp_step(x:Int)(k:Nat)(h:k<8):Zdj x (k+1)=Zdj x k+btI x (7-(k:Int))*2^k:=by
 rw[Zdj,btI,show(7-(k:Int)).toNat=7-k by omega]
theorem Zfi(x:Int):∀k:Nat,0≤Zdj x k∧Zdj x k<2^k
 |0=>by simp[Zdj]
 |k+1=>by
  have h:=Zfi x k;have hp:(0:Int)<2^k:=Int.pow_pos (by decide);rw[Zdj,Int.pow_succ]
  have b0:0≤x/2^(7-k)%2:=by omega
  have b1:x/2^(7-k)%2≤1:=by omega
  have l1:=Int.mul_le_mul_of_nonneg_right b1 (Int.le_of_lt hp);have l0:=Int.mul_nonneg b0 (Int.le_of_lt hp)
  omega
theorem low_bd(x:Int)(k:Nat):0≤low x k∧low x k<2^k:=by
 rw[Zeu];have hp:(0:Int)<2^k:=Int.pow_pos (by decide);exact⟨Int.emod_nonneg x (Int.ne_of_gt hp),Int.emod_lt_of_pos x hp⟩
theorem Zfb(x:Int)(k:Nat):low x (k+1)=low x k+btI x k*2^k:=by rw[low,btI];rfl
theorem shift_up(b:Int)(j k:Nat)(h0:0≤b)(h1:b≤1):0≤b*2^(j+k)∧b*2^(j+k)≤2^(j+k)∧b*2^(j+k)=b*2^k*2^j:=by
 have hp:(0:Int)<2^(j+k):=Int.pow_pos (by decide);refine⟨Int.mul_nonneg h0 (Int.le_of_lt hp),?_,?_⟩
 · have:=Int.mul_le_mul_of_nonneg_right h1 (Int.le_of_lt hp)
   omega
 · rw[Int.pow_add,Int.mul_assoc,Int.mul_comm (2^j)]
theorem word_below(a b c d:Int)(hm:mayR a b c d=true)(hd:d<0)(w:World):
 Calls prog 72 #[.agg #[Vi a,Vi b,Vi c,Vi d]] w fun e w'=>e=.returned (.int .u32 (Zcy a b c d))∧Below w.heap.size w w':=by
 obtain⟨⟨a0,a1⟩,⟨b0,b1⟩,⟨c0,c1⟩,d0,d1⟩:=Ziw hm
 have HY:Hid ((d+524288)=d%524288):=by show(d+524288)=d%524288;omega
 have hw:IntKind.i64.wrap (d+524288)=d+524288:=by rw[IntKind.wrap_i64];omega
 go_enter func72,ntmps72
 go_wp2
 go_loop [4,5] (fun v i=>∃k:Nat,k≤8∧i=Vi k∧v=.int .u32 (Zdj a k)) (fun v i=>8-(intOf i).toNat)
 case atStart=>exact⟨0,by omega,rfl,rfl⟩
 case round=>
  obtain⟨k,hk,rfl,rfl⟩:=hrel
  by_cases hlt:k<8
  · have ht:=Zfi a k;have hp:(2:Int)^k≤2^7:=Zea k 7 (by omega);have hs:Hid (Zdj a (k+1)=Zdj a k+btI a (7-(k:Int))*2^k):=turnUp_step a k hlt;have hbt:=Zgm a (7-(k:Int)) (by omega) (by omega);have hbd:=Zen a (7-(k:Int));have hsh:=shift_bd _ k (by omega) hbd.1 hbd.2
    have hb2:btI a (7-(k:Int))*2^k≤2^k:=by
     have:=Int.mul_le_mul_of_nonneg_right hbd.2 (Int.le_of_lt (show(0:Int)<2^k from Int.pow_pos (by decide)))
     omega
    generalize Zdj a k=t at *;generalize btI a (7-(k:Int))=b' at*
    go_wp2_with (go_at_call 126;refine Sm (hbt _) ?_)
    go_round
    case rel=>exact⟨k+1,by omega,by go_num,by rw[hs.out]⟩
    case measure=>simp[intOf];omega
  · have e:k=8:=by omega
    subst e;rw[←rev_eq_up a a0 (by omega)];obtain⟨r0,r1⟩:=Zey a a0 (by omega);have HX:Hid (Box4 (w.alloc (.cells #[Vi a,Vi b,Vi c,Vi d] 161)) w.heap.size a b c d):=Box4.new _ _ _ _ _ _;have HB:Hid (Below w.heap.size w (w.alloc (.cells #[Vi a,Vi b,Vi c,Vi d] 161))):=Zaa _ _;go_wp2;generalize (w.alloc (.cells #[Vi a,Vi b,Vi c,Vi d] 161))=w1 at*
    go_loopw [4,6] (fun v i wr=>∃k:Nat,k≤2∧i=Vi k∧v=.int .u32 (Lib.rev8 a+low b k*256+low c k*536870912)∧Box4 wr w.heap.size a b c d∧Below w.heap.size w wr) (fun v i _=>2-(intOf i).toNat)
    case atStart=>exact⟨0,by omega,rfl,by simp[low],HX,HB⟩
    case round=>
     clear HX HB;obtain⟨k,hk,rfl,rfl,hx,hb⟩:=hrel;have HX:Hid (Box4 wr w.heap.size a b c d):=hx;obtain⟨q0,q1,q2,q3,_⟩:=hx;have HB:Hid (Below w.heap.size w wr):=hb;clear hb
     by_cases hlt2:k<2
     · have l0:=low_bd b k;have l1:=low_bd c k;have hp:(2:Int)^k≤2^1:=Zea k 1 (by omega);have hs1:=Zfb b k;have hs2:=Zfb c k;have f1:=Zgm b k (by omega) (by omega);have f2:=Zgm c k (by omega) (by omega);have g1:=Zen b k;have g2:=Zen c k
       rcases(show k=0∨k=1 by omega) with rfl|rfl
       · simp only[Int.reducePow,Int.pow_zero,Int.mul_one,Nat.zero_add] at hs1 hs2 l0 l1 hp;generalize low b 0=t1 at *;generalize low c 0=t2 at *;simp only[Int.natCast_zero] at f1 f2 g1 g2 hs1 hs2;generalize btI b 0=e1 at *;generalize btI c 0=e2 at *;have HS:Hid (low b 1=t1+e1∧low c 1=t2+e2):=⟨hs1,hs2⟩;clear hs1 hs2;go_wp2
         go_quiet (first
          |((first|go_at_call_of 126 (Vi b)|go_at_call_of 126 (Value.int .i64 b));exact Calls.quiet_of_same (f1 _))
          |((first|go_at_call_of 126 (Vi c)|go_at_call_of 126 (Value.int .i64 c));exact Calls.quiet_of_same (f2 _)))
         go_wp2;go_roundw
         case rel=>
          refine⟨1,by omega,by go_num,?_,HX.out.later (below_drewN (Below.refl _ _) _),below_drewN HB.out _⟩;rw[HS.out.1,HS.out.2]
          (congr 1;omega)
         case measure=>simp[intOf]
       · simp only[Int.reducePow,Nat.reduceAdd] at hs1 hs2 l0 l1 hp f1 f2 g1 g2;generalize low b 1=t1 at *;generalize low c 1=t2 at *;generalize btI b 1=e1 at *;generalize btI c 1=e2 at *;have HS:Hid (low b 2=t1+e1*2∧low c 2=t2+e2*2):=⟨hs1,hs2⟩;clear hs1 hs2;go_wp2
         go_quiet (first
          |((first|go_at_call_of 126 (Vi b)|go_at_call_of 126 (Value.int .i64 b));exact Calls.quiet_of_same (f1 _))
          |((first|go_at_call_of 126 (Vi c)|go_at_call_of 126 (Value.int .i64 c));exact Calls.quiet_of_same (f2 _)))
         go_wp2;go_roundw
         case rel=>
          refine⟨2,by omega,by go_num,?_,HX.out.later (below_drewN (Below.refl _ _) _),below_drewN HB.out _⟩;rw[HS.out.1,HS.out.2]
          (congr 1;omega)
         case measure=>simp[intOf]
     · have e:k=2:=by omega
       subst e
       have e1:low b 2=b:=by rw[Zeu];simp only[Int.reducePow];omega
       have e2:low c 2=c:=by rw[Zeu];simp only[Int.reducePow];omega
       rw[e1,e2,show((2:Nat):Int)=2 from rfl];clear e1 e2;generalize hr:Lib.rev8 a=r at *;have HR:Hid (Lib.rev8 a=r):=hr;clear hr;go_wp2
       go_loop [4,7] (fun v i=>∃k:Nat,k≤19∧i=Vi k∧v=.int .u32 (r+b*256+c*536870912+low (d+524288) k*1024)) (fun v i=>19-(intOf i).toNat)
       case atStart=>exact⟨0,by omega,rfl,by simp[low]⟩
       case round=>
        obtain⟨k,hk3,rfl,rfl⟩:=hrel
        by_cases hlt3:k<19
        · have ht:=low_bd (d+524288) k;have hp:(2:Int)^k≤2^18:=Zea k 18 (by omega);have hs:Hid (low (d+524288) (k+1)=low (d+524288) k+btI (d+524288) k*2^k):=Zfb (d+524288) k;have hbt:=Zgm (d+524288) k (by omega) (by omega);have hbd:=Zen (d+524288) k;have hsu:=shift_up (btI (d+524288) k) 10 k hbd.1 hbd.2
          have hb2:btI (d+524288) k*2^k≤2^k:=by
           have:=Int.mul_le_mul_of_nonneg_right hbd.2 (Int.le_of_lt (show(0:Int)<2^k from Int.pow_pos (by decide)))
           omega
          have hpw:(10+(k:Int)).toNat=10+k:=by omega
          generalize low (d+524288) k=t at *;generalize btI (d+524288) k=b' at *;simp only[Int.reducePow] at hsu;generalize hz:b'*2^(10+k)=z at*
          go_wp2_with (go_at_call 126;refine(hbt _).mono ?_;rintro e w' ⟨rfl,rfl⟩)
          go_round
          case rel=>
           refine⟨k+1,by omega,by go_num,?_⟩;rw[hs.out,Int.add_mul]
           (congr 1;omega)
          case measure=>simp[intOf];omega
        · have e:k=19:=by omega
          subst e
          have el:low (d+524288) 19=(d+524288):=by rw[Zeu];simp only[Int.reducePow];omega
          have hB:Hid (r+b*256+c*536870912+(d+524288)*1024=Zgn a b c d):=by
           show r+b*256+c*536870912+(d+524288)*1024=Zgn a b c d
           unfold Zgn
           rw[HR.out,HY.out]
           omega
          have ho:=odd_any (r+b*256+c*536870912+(d+524288)*1024) (by omega) (by omega);rw[el,show((19:Nat):Int)=19 from rfl];clear el
          by_cases hodd:ones (r+b*256+c*536870912+(d+524288)*1024) 32%2=1
          · have HP:Hid (Zcy a b c d=r+b*256+c*536870912+(d+524288)*1024):=by
             show Zcy a b c d=_
             unfold Zcy;rw[←hB.out,if_pos hodd]
            rw[decide_eq_true hodd] at ho;clear hodd hB
            go_wp2_with (go_at_call 90;refine(ho _).mono ?_;rintro e w' ⟨rfl,rfl⟩);go_ret;exact⟨by rw[HP.out];rfl,HB⟩
          · have HP:Hid (Zcy a b c d=r+b*256+c*536870912+(d+524288)*1024+2147483648):=by
             show Zcy a b c d=_
             unfold Zcy;rw[←hB.out,if_neg hodd]
            rw[decide_eq_false hodd] at ho;clear hodd hB
            go_wp2_with (go_at_call 90;refine(ho _).mono ?_;rintro e w' ⟨rfl,rfl⟩);go_ret;exact⟨by rw[HP.out];rfl,HB⟩
theorem word_above(a b c d:Int)(hm:mayR a b c d=true)(hd:0≤d)(w:World):
 Calls prog 72 #[.agg #[Vi a,Vi b,Vi c,Vi d]] w fun e w'=>e=.returned (.int .u32 (Zcy a b c d))∧Below w.heap.size w w':=by
 obtain⟨⟨a0,a1⟩,⟨b0,b1⟩,⟨c0,c1⟩,d0,d1⟩:=Ziw hm
 have HY:Hid (d=d%524288):=by show d=d%524288;omega
 go_enter func72,ntmps72
 go_wp2
 go_loop [4,5] (fun v i=>∃k:Nat,k≤8∧i=Vi k∧v=.int .u32 (Zdj a k)) (fun v i=>8-(intOf i).toNat)
 case atStart=>exact⟨0,by omega,rfl,rfl⟩
 case round=>
  obtain⟨k,hk,rfl,rfl⟩:=hrel
  by_cases hlt:k<8
  · have ht:=Zfi a k;have hp:(2:Int)^k≤2^7:=Zea k 7 (by omega);have hs:Hid (Zdj a (k+1)=Zdj a k+btI a (7-(k:Int))*2^k):=turnUp_step a k hlt;have hbt:=Zgm a (7-(k:Int)) (by omega) (by omega);have hbd:=Zen a (7-(k:Int));have hsh:=shift_bd _ k (by omega) hbd.1 hbd.2
    have hb2:btI a (7-(k:Int))*2^k≤2^k:=by
     have:=Int.mul_le_mul_of_nonneg_right hbd.2 (Int.le_of_lt (show(0:Int)<2^k from Int.pow_pos (by decide)))
     omega
    generalize Zdj a k=t at *;generalize btI a (7-(k:Int))=b' at*
    go_wp2_with (go_at_call 126;refine Sm (hbt _) ?_)
    go_round
    case rel=>exact⟨k+1,by omega,by go_num,by rw[hs.out]⟩
    case measure=>simp[intOf];omega
  · have e:k=8:=by omega
    subst e;rw[←rev_eq_up a a0 (by omega)];obtain⟨r0,r1⟩:=Zey a a0 (by omega);have HX:Hid (Box4 (w.alloc (.cells #[Vi a,Vi b,Vi c,Vi d] 161)) w.heap.size a b c d):=Box4.new _ _ _ _ _ _;have HB:Hid (Below w.heap.size w (w.alloc (.cells #[Vi a,Vi b,Vi c,Vi d] 161))):=Zaa _ _;go_wp2;generalize (w.alloc (.cells #[Vi a,Vi b,Vi c,Vi d] 161))=w1 at*
    go_loopw [4,6] (fun v i wr=>∃k:Nat,k≤2∧i=Vi k∧v=.int .u32 (Lib.rev8 a+low b k*256+low c k*536870912)∧Box4 wr w.heap.size a b c d∧Below w.heap.size w wr) (fun v i _=>2-(intOf i).toNat)
    case atStart=>exact⟨0,by omega,rfl,by simp[low],HX,HB⟩
    case round=>
     clear HX HB;obtain⟨k,hk,rfl,rfl,hx,hb⟩:=hrel;have HX:Hid (Box4 wr w.heap.size a b c d):=hx;obtain⟨q0,q1,q2,q3,_⟩:=hx;have HB:Hid (Below w.heap.size w wr):=hb;clear hb
     by_cases hlt2:k<2
     · have l0:=low_bd b k;have l1:=low_bd c k;have hp:(2:Int)^k≤2^1:=Zea k 1 (by omega);have hs1:=Zfb b k;have hs2:=Zfb c k;have f1:=Zgm b k (by omega) (by omega);have f2:=Zgm c k (by omega) (by omega);have g1:=Zen b k;have g2:=Zen c k
       rcases(show k=0∨k=1 by omega) with rfl|rfl
       · simp only[Int.reducePow,Int.pow_zero,Int.mul_one,Nat.zero_add] at hs1 hs2 l0 l1 hp;generalize low b 0=t1 at *;generalize low c 0=t2 at *;simp only[Int.natCast_zero] at f1 f2 g1 g2 hs1 hs2;generalize btI b 0=e1 at *;generalize btI c 0=e2 at *;have HS:Hid (low b 1=t1+e1∧low c 1=t2+e2):=⟨hs1,hs2⟩;clear hs1 hs2;go_wp2
         go_quiet (first
          |((first|go_at_call_of 126 (Vi b)|go_at_call_of 126 (Value.int .i64 b));exact Calls.quiet_of_same (f1 _))
          |((first|go_at_call_of 126 (Vi c)|go_at_call_of 126 (Value.int .i64 c));exact Calls.quiet_of_same (f2 _)))
         go_wp2;go_roundw
         case rel=>
          refine⟨1,by omega,by go_num,?_,HX.out.later (below_drewN (Below.refl _ _) _),below_drewN HB.out _⟩;rw[HS.out.1,HS.out.2]
          (congr 1;omega)
         case measure=>simp[intOf]
       · simp only[Int.reducePow,Nat.reduceAdd] at hs1 hs2 l0 l1 hp f1 f2 g1 g2;generalize low b 1=t1 at *;generalize low c 1=t2 at *;generalize btI b 1=e1 at *;generalize btI c 1=e2 at *;have HS:Hid (low b 2=t1+e1*2∧low c 2=t2+e2*2):=⟨hs1,hs2⟩;clear hs1 hs2;go_wp2
         go_quiet (first
          |((first|go_at_call_of 126 (Vi b)|go_at_call_of 126 (Value.int .i64 b));exact Calls.quiet_of_same (f1 _))
          |((first|go_at_call_of 126 (Vi c)|go_at_call_of 126 (Value.int .i64 c));exact Calls.quiet_of_same (f2 _)))
         go_wp2;go_roundw
         case rel=>
          refine⟨2,by omega,by go_num,?_,HX.out.later (below_drewN (Below.refl _ _) _),below_drewN HB.out _⟩;rw[HS.out.1,HS.out.2]
          (congr 1;omega)
         case measure=>simp[intOf]
     · have e:k=2:=by omega
       subst e
       have e1:low b 2=b:=by rw[Zeu];simp only[Int.reducePow];omega
       have e2:low c 2=c:=by rw[Zeu];simp only[Int.reducePow];omega
       rw[e1,e2,show((2:Nat):Int)=2 from rfl];clear e1 e2;generalize hr:Lib.rev8 a=r at *;have HR:Hid (Lib.rev8 a=r):=hr;clear hr;go_wp2
       go_loop [4,7] (fun v i=>∃k:Nat,k≤19∧i=Vi k∧v=.int .u32 (r+b*256+c*536870912+low d k*1024)) (fun v i=>19-(intOf i).toNat)
       case atStart=>exact⟨0,by omega,rfl,by simp[low]⟩
       case round=>
        obtain⟨k,hk3,rfl,rfl⟩:=hrel
        by_cases hlt3:k<19
        · have ht:=low_bd d k;have hp:(2:Int)^k≤2^18:=Zea k 18 (by omega);have hs:Hid (low d (k+1)=low d k+btI d k*2^k):=Zfb d k;have hbt:=Zgm d k (by omega) (by omega);have hbd:=Zen d k;have hsu:=shift_up (btI d k) 10 k hbd.1 hbd.2
          have hb2:btI d k*2^k≤2^k:=by
           have:=Int.mul_le_mul_of_nonneg_right hbd.2 (Int.le_of_lt (show(0:Int)<2^k from Int.pow_pos (by decide)))
           omega
          have hpw:(10+(k:Int)).toNat=10+k:=by omega
          generalize low d k=t at *;generalize btI d k=b' at *;simp only[Int.reducePow] at hsu;generalize hz:b'*2^(10+k)=z at*
          go_wp2_with (go_at_call 126;refine(hbt _).mono ?_;rintro e w' ⟨rfl,rfl⟩)
          go_round
          case rel=>
           refine⟨k+1,by omega,by go_num,?_⟩;rw[hs.out,Int.add_mul]
           (congr 1;omega)
          case measure=>simp[intOf];omega
        · have e:k=19:=by omega
          subst e
          have el:low d 19=d:=by rw[Zeu];simp only[Int.reducePow];omega
          have hB:Hid (r+b*256+c*536870912+d*1024=Zgn a b c d):=by
           show r+b*256+c*536870912+d*1024=Zgn a b c d
           unfold Zgn
           rw[HR.out,HY.out]
           omega
          have ho:=odd_any (r+b*256+c*536870912+d*1024) (by omega) (by omega);rw[el,show((19:Nat):Int)=19 from rfl];clear el
          by_cases hodd:ones (r+b*256+c*536870912+d*1024) 32%2=1
          · have HP:Hid (Zcy a b c d=r+b*256+c*536870912+d*1024):=by
             show Zcy a b c d=_
             unfold Zcy;rw[←hB.out,if_pos hodd]
            rw[decide_eq_true hodd] at ho;clear hodd hB
            go_wp2_with (go_at_call 90;refine(ho _).mono ?_;rintro e w' ⟨rfl,rfl⟩);go_ret;exact⟨by rw[HP.out];rfl,HB⟩
          · have HP:Hid (Zcy a b c d=r+b*256+c*536870912+d*1024+2147483648):=by
             show Zcy a b c d=_
             unfold Zcy;rw[←hB.out,if_neg hodd]
            rw[decide_eq_false hodd] at ho;clear hodd hB
            go_wp2_with (go_at_call 90;refine(ho _).mono ?_;rintro e w' ⟨rfl,rfl⟩);go_ret;exact⟨by rw[HP.out];rfl,HB⟩
theorem word_any(a b c d:Int)(hm:mayR a b c d=true)(w:World):
 Calls prog 72 #[.agg #[Vi a,Vi b,Vi c,Vi d]] w fun e w'=>e=.returned (.int .u32 (Zcy a b c d))∧Below w.heap.size w w':=by
 by_cases hd:d<0
 · exact word_below a b c d hm hd w
 · exact word_above a b c d hm (by omega) w
theorem body_bd{a b c d:Int}(hm:mayR a b c d=true):0≤Zgn a b c d∧Zgn a b c d<2147483648:=by
 obtain⟨⟨a0,a1⟩,⟨b0,b1⟩,⟨c0,c1⟩,d0,d1⟩:=Ziw hm;obtain⟨r0,r1⟩:=Zey a a0 (by omega)
 unfold Zgn
 omega
theorem pack_bd{a b c d:Int}(hm:mayR a b c d=true):0≤Zcy a b c d∧Zcy a b c d<4294967296:=by
 have:=body_bd hm
 unfold Zcy
 split<;>omega
end Go.Proofs.YtnfdfiholcelaaaGreatDoor
namespace Go.Proofs.YtnfdfiholcelaaaGreatDoor.Plain
set_option linter.unusedVariables false
end Go.Proofs.YtnfdfiholcelaaaGreatDoor.Plain
namespace Go.Proofs.YtnfdfiholcelaaaGreatDoor
open Go.RowKit Plain Tryz
theorem may_mk{a b c d:Int}(ha:0≤a∧a<256)(hb:0≤b∧b<4)(hc:0≤c∧c<4)(hd:-262144≤d∧d<262144):Zfa (a,b,c,d)=true:=by
 unfold Zfa mayR
 simp only[Bool.and_eq_true,decide_eq_true_eq];exact⟨⟨⟨ha,hb⟩,hc⟩,hd⟩
theorem cW_bd(x:Int):-262144≤cW x∧cW x<262144:=by have:=Zcd (v:=x) (show(-262144:Int)≤262143 by omega);unfold cW;omega
theorem cD_bd(x:Int):-262144≤cD x∧cD x<262144:=by have:=Zcd (v:=x) (show(-262143:Int)≤262143 by omega);unfold cD;omega
theorem chR_may{l:List Ft}{now ax k lab x:Int}(hl:0≤lab∧lab<256)(hk:0≤k∧k<4):∀r∈chR l now ax k lab x,Zfa r=true:=by
 intro r hr
 unfold chR sdL at hr
 split at hr
 · obtain rfl:=List.mem_singleton.1 hr;exact may_mk hl hk (by omega) (cW_bd x)
 · split at hr
   · cases hr
   · obtain rfl:=List.mem_singleton.1 hr
     unfold spo
     dsimp only
     split
     · exact may_mk hl hk (by omega) (cD_bd _)
     · split
       · exact may_mk hl hk (by omega) (cW_bd _)
       · split
         · exact may_mk hl hk (by omega) (cW_bd _)
         · exact may_mk hl hk (by omega) (cW_bd _)
theorem chU_may{l:List Ft}{now:Int}{i:Nat}{N x z:Int}(hi:i<2):∀k,k≤3→∀r∈chU l now i N x z k,Zfa r=true
 |0,_,r,hr=>by cases hr
 |k+1,hk,r,hr=>by
  rw[chU] at hr
  rcases List.mem_append.1 hr with hr|hr
  · exact chU_may hi k (by omega) r hr
  · exact chR_may (by omega) (by omega) r hr
theorem suU_may{i:Nat}{at':Nat→Int}(hi:i<2)(ha:∀k,k<4→-1000≤at' k∧at' k≤1000):∀k,k≤4→∀r∈suU i at' k,Zfa r=true
 |0,_,r,hr=>by cases hr
 |k+1,hk,r,hr=>by
  rw[suU] at hr
  rcases List.mem_append.1 hr with hr|hr
  · exact suU_may hi ha k (by omega) r hr
  · obtain rfl:=List.mem_singleton.1 hr;have:=ha k (by omega);exact may_mk (by omega) (by omega) (by omega) (by omega)
theorem spR_may{l:List Ft}{now v:Int}:∀k,k≤3→∀r∈spR l now v k,Zfa r=true
 |0,_,r,hr=>by cases hr
 |k+1,hk,r,hr=>by
  rw[spR] at hr
  rcases List.mem_append.1 hr with hr|hr
  · exact spR_may k (by omega) r hr
  · exact chR_may (by omega) (by omega) r hr
theorem saR_may{C:CR}{l:List Ft}{now:Int}{x:Nat→Int}{at':Nat→Nat→Int}{s:Stp}(h4:∀i,i<2→C.a i 4≤4)(ha:∀i,i<2→∀k,k<4→-1000≤at' i k∧at' i k≤1000)(hk:∀i,i<2→-100≤s.k i∧s.k i≤100):∀r∈saR C l now x at' s,Zfa r=true:=by
 have hax:∀i,i≤2→∀r∈axU C l now x at' s i,Zfa r=true:=by
  intro i
  induction i with
  |zero=>intro _ r hr;cases hr
  |succ i ih=>
   intro hi r hr;rw[axU] at hr;have h5:=h4 i (by omega)
   rcases List.mem_append.1 hr with hr|hr
   · exact ih (by omega) r hr
   · unfold axR at hr
     rcases List.mem_append.1 hr with hr|hr
     · rcases List.mem_append.1 hr with hr|hr
       · exact chU_may (by omega) 3 (by omega) r hr
       · exact suU_may (by omega) (ha i (by omega)) _ (by omega) r hr
     · obtain rfl:=List.mem_singleton.1 hr;have:=hk i (by omega);exact may_mk (by omega) (by omega) (by omega) (by omega)
 intro r hr
 unfold saR at hr
 rcases List.mem_append.1 hr with hr|hr
 · rcases List.mem_append.1 hr with hr|hr
   · exact hax 2 (by omega) r hr
   · exact spR_may 3 (by omega) r hr
 · split at hr
   · obtain rfl:=List.mem_singleton.1 hr
     rfl
   · cases hr
theorem stL_info(T:FS):(prog.info? 41).map (·.size)=some (stL T).toArray.size:=by rw[Zbf];rfl
theorem stL_infoL(T:FS):(prog.info? 41).map (·.size)=some (stL T).length:=by rw[Zbf];rfl
theorem stL_one(T:FS):(stL T).toArray.all (·.oneCell')=true:=Zaq _ rfl
section
variable (C : CR) (pf : Option Addr) (nf cf : Nat) (S T : FS) (now : Int) (x : Nat → Int) (at' : Nat → Nat → Int)
end
theorem Oth.setCells{w0:World}{B:Nat}:∀(vs:List Value) (o:Nat) (u:World),Oth w0 u B→Oth w0 (u.setCells B o vs) B
 |[],_,_,h=>h
 |v::r,o,u,h=>Oth.setCells r (o+1) (u.setCell ⟨B,o,none⟩ v) h.set
theorem Oth.below{w u:World}{B:Nat}(h:Below w.heap.size w u):Oth w u B:=(Oth.refl w B).later h
theorem Oth.trans{w0 u v:World}{B:Nat}(h:Oth w0 u B)(k:Oth u v B):Oth w0 v B:=
 ⟨Nat.le_trans h.1 k.1,k.2.1.trans h.2.1,k.2.2.1.trans h.2.2.1,k.2.2.2.1.trans h.2.2.2.1,fun b h1 h2=>(k.2.2.2.2 b (Nat.lt_of_lt_of_le h1 h.1) h2).trans (h.2.2.2.2 b h1 h2)⟩
theorem Oth.blk{w u:World}{B b:Nat}{t:TypeId}{cs:List Value}(h:Oth w u B)(hb:b≠B)(k:Blk t w b cs):Blk t u b cs:=(h.2.2.2.2 b k.lt hb).trans k
theorem Oth.vls{w u:World}{B:Nat}{a:Option Addr}{l:List Sv}(h:Oth w u B)(hn:∀g o,a=some (Ad g o)→g≠B)(k:VLs w a l):VLs u a l:=by
 rcases k with k|⟨g,o,e,hc⟩
 · exact .inl k
 · exact .inr ⟨g,o,e,fun j hj=>⟨h.cell (hn g o e) (hc j hj).1,h.cell (hn g o e) (hc j hj).2.1,h.cell (hn g o e) (hc j hj).2.2⟩⟩
theorem Oth.u32{w u:World}{B:Nat}{a:Option Addr}{l:List Int}(h:Oth w u B)(hn:∀g o,a=some (Ad g o)→g≠B)(k:U32s w a l):U32s u a l:=by
 rcases k with k|⟨g,e,hc⟩
 · exact .inl k
 · exact .inr ⟨g,e,fun j hj=>h.cell (hn g 0 e) (hc j hj)⟩
theorem Oth.grown{w u:World}{B:Nat}(h:Oth w u B):w.grownBy u (some B):=⟨h.2.1,h.2.2.1,h.2.2.2.1,h.1,fun k h1 h2=>h.2.2.2.2 k h1 (fun e=>h2 (by rw[e]))⟩
theorem Oth.of{w u:World}{B:Nat}(h:w.grownBy u (some B)):Oth w u B:=⟨h.size,h.os,h.tape,h.output,fun b h1 h2=>h.block b h1 (fun e=>h2 (Option.some.inj e))⟩
def zSt:List Value:=stL ⟨fun _=>⟨fun _=>0,fun _=>false,0⟩,fun _=>none,fun _=>0,fun _=>0,fun _=>(0,0,0),0⟩
theorem Blk.setSt{u:World}{X:Nat}(h:Blk 41 u X zSt)(T:FS):Blk 41 (u.setCells X 0 (stL T)) X (stL T):=by
 have k:=Blk.setCells (stL T) 0 u _ h
 rwa[putL_all (stL T) zSt rfl] at k
theorem Blk.there0{u:World}{X:Nat}(h:Blk 41 u X zSt)(T:FS):u.there X 0 (stL T).toArray.size:=h.there (Nat.le_of_ble_eq_true rfl)
def sgU(f:Nat→Int):Nat→Int
 |0=>0
 |k+1=>sgU f k+f k
theorem Ziu{f g:Nat→Int}:∀n,(∀k,k<n→f k≤g k)→sgU f n≤sgU g n
 |0,_=>Int.le_refl _
 |n+1,h=>by have a:=Ziu n (fun k hk=>h k (by omega));have c:=h n (by omega);simp only[sgU];omega
theorem sgU_eq{f g:Nat→Int}:∀n,(∀k,k<n→f k=g k)→sgU f n=sgU g n
 |0,_=>rfl
 |n+1,h=>by have a:=sgU_eq n (fun k hk=>h k (by omega));have c:=h n (by omega);simp only[sgU];omega
theorem Zie(T R:Int)(l:List Sv)(v:Int):∀n,totU T R l v n=sgU (fun k=>tk T R (svAt l k) v) n
 |0=>rfl
 |n+1=>by simp only[totU,sgU,Zie T R l v n]
theorem Zgp(l:List Sv):∀n,smU l n=sgU (fun k=>(svAt l k).1) n
 |0=>rfl
 |n+1=>by simp only[smU,sgU,Zgp l n]
theorem tk_in{T R S C:Int}{s:Sv}(hr:arB T R S C=true)(hs:svB T C s.1 s.2.1 s.2.2=true)(ho:s.2.2=false)(v:Int):
 (-T≤tk T R s v∧tk T R s v≤T)∧(s.1-R≤tk T R s v∧tk T R s v≤s.1+R)∧(tk T R s v=v∨(tk T R s v<v∧(tk T R s v=s.1+R∨tk T R s v=T))∨(v<tk T R s v∧(tk T R s v=s.1-R∨tk T R s v=-T))):=by
 have a:=Zat hr;have c:=Zbd hs
 unfold tk Zal loR hiR mxA mnA
 rw[ho];simp only[Bool.false_eq_true,if_false]
 split
 · omega
 · split
   · omega
   · split<;>omega
theorem Zhr{T R:Int}{s:Sv}(ho:s.2.2=true)(v:Int):tk T R s v=0:=by
 unfold tk Zal loR hiR
 rw[ho];simp only[if_true]
 split
 · rfl
 · split
   · rfl
   · split<;>omega
theorem tk_next{T R S C:Int}{s:Sv}(hr:arB T R S C=true)(hs:svB T C s.1 s.2.1 s.2.2=true)(v:Int):tk T R s v≤tk T R s (v+1)∧tk T R s (v+1)≤tk T R s v+1:=by
 cases ho:s.2.2
 · have a:=tk_in hr hs ho v;have c:=tk_in hr hs ho (v+1)
   omega
 · rw[Zhr ho,Zhr ho];omega
theorem lf_is{T R S C:Int}{l:List Sv}(hok:AllOk T R S C l)(v s:Int)(hs:0≤s):∀n,n≤l.length→lfU T R l v s n=max 0 (s-(totU T R l (v+1) n-totU T R l v n))∧sgU (dlI T R l v s) n=totU T R l v n+s-lfU T R l v s n
 |0,_=>by simp only[lfU,totU,sgU];omega
 |n+1,hn=>by
  have i:=lf_is hok v s hs n (by omega);have a:=tk_next hok.1 (hok.2 n (by omega)) v;simp only[lfU,totU,sgU,dlI]
  split<;>omega
theorem dl_in{T R S C:Int}{l:List Sv}(hok:AllOk T R S C l)(v s:Int){k:Nat}(hk:k<l.length):tk T R (svAt l k) v≤dlI T R l v s k∧dlI T R l v s k≤tk T R (svAt l k) (v+1):=by
 have a:=tk_next hok.1 (hok.2 k hk) v
 unfold dlI
 split<;>omega
theorem dl_sum{T R S C:Int}{l:List Sv}(hok:AllOk T R S C l){v c:Int}(hv:IsLev T R l c v)(hc:c≤tot T R l T):sgU (dlI T R l v (c-tot T R l v)) l.length=c:=by
 obtain⟨h1,h2,h3,h4⟩:=hv;have i:=lf_is hok v (c-tot T R l v) (by omega) l.length (Nat.le_refl _)
 by_cases h:v<T
 · have:=h4 h
   unfold tot at*
   omega
 · have e:v=T:=by omega
   subst e;have:=Zdy v R l (show v≤v+1 by omega)
   unfold tot at*
   omega
def inT(T:Int)(l:List Sv)(n:Nat):Int:=sgU (fun k=>if(svAt l k).2.2 then 0 else T) n
def inN(l:List Sv):Nat→Nat
 |0=>0
 |k+1=>if(svAt l k).2.2 then inN l k else inN l k+1
theorem inN_le(l:List Sv):∀n,inN l n≤n
 |0=>Nat.le_refl _
 |n+1=>by have:=inN_le l n;simp only[inN];split<;>omega
theorem inT_is(T:Int)(l:List Sv):∀n,inT T l n=(inN l n:Int)*T
 |0=>by simp[inT,inN,sgU]
 |n+1=>by
  have i:=inT_is T l n
  unfold inT at*
  simp only[sgU,inN]
  split
  · omega
  · rw[i,show((inN l n+1:Nat):Int)=(inN l n:Int)+1 by omega,Int.add_mul];omega
def clS(s lo hi:Int):Int:=min (max s lo) hi
def nxL(T R:Int)(l:List Sv)(v c:Int):List Sv:=(List.range l.length).map fun k=>(dlI T R l v (c-tot T R l v) k,(svAt l k).2.1,(svAt l k).2.2)
theorem nx_len(T R:Int)(l:List Sv)(v c:Int):(nxL T R l v c).length=l.length:=by simp[nxL]
theorem nx_at(T R:Int)(l:List Sv)(v c:Int){k:Nat}(hk:k<l.length):svAt (nxL T R l v c) k=(dlI T R l v (c-tot T R l v) k,(svAt l k).2.1,(svAt l k).2.2):=by
 simp[svAt,nxL,hk,List.getD]
structure Fr (T R S C sum:Int) (l l':List Sv):Prop where
 ok:AllOk T R S C l
 ok':AllOk T R S C l'
 len:l'.length=l.length
 out:∀k,k<l.length→(svAt l' k).2.2=(svAt l k).2.2
 near:∀k,k<l.length→(svAt l k).2.2=false→(svAt l k).1-R≤(svAt l' k).1∧(svAt l' k).1≤(svAt l k).1+R
 sum':smU l' l'.length=clS sum (tot T R l (-T)) (tot T R l T)
 lev:∃v,IsLev T R l (clS sum (tot T R l (-T)) (tot T R l T)) v∧∀k,k<l.length→tk T R (svAt l k) v≤(svAt l' k).1∧(svAt l' k).1≤tk T R (svAt l k) (v+1)
theorem clS_clip{s lo hi:Int}(h:lo≤hi):Zal s lo hi=clS s lo hi:=by
 unfold Zal clS;split
 · omega
 · split
   · omega
   · split<;>omega
theorem fr_mk{T R S C sum v:Int}{l:List Sv}(hok:AllOk T R S C l)(hv:IsLev T R l (Zal sum (tot T R l (-T)) (tot T R l T)) v):
 Fr T R S C sum l (nxL T R l v (Zal sum (tot T R l (-T)) (tot T R l T))):=by
 have a:=Zat hok.1;have hm:=Zdy T R l (show -T≤T by omega);rw[clS_clip hm] at hv⊢;generalize hc:clS sum (tot T R l (-T)) (tot T R l T)=c at*
 have hb:tot T R l (-T)≤c∧c≤tot T R l T:=by unfold clS at hc;omega
 have hsv:∀k,k<l.length→svB T C (dlI T R l v (c-tot T R l v) k) (svAt l k).2.1 (svAt l k).2.2=true∧((svAt l k).2.2=false→(svAt l k).1-R≤dlI T R l v (c-tot T R l v) k∧dlI T R l v (c-tot T R l v) k≤(svAt l k).1+R):=fun k hk=>by
  have d:=dl_in hok v (c-tot T R l v) hk;have s:=Zbd (hok.2 k hk)
  cases ho:(svAt l k).2.2
  · have x:=tk_in hok.1 (hok.2 k hk) ho v;have y:=tk_in hok.1 (hok.2 k hk) ho (v+1);rw[ho] at s;exact⟨sv_mk (by omega) s.2.1 (fun h=>by cases h) s.2.2.2,fun _=>by omega⟩
  · rw[Zhr ho,Zhr ho] at d;rw[ho] at s;exact⟨sv_mk (by omega) s.2.1 (fun _=>by omega) (fun h=>by cases h),fun h=>by cases h⟩
 refine⟨hok,⟨hok.1,fun k hk=>?_⟩,nx_len _ _ _ _ _,fun k hk=>by rw[nx_at _ _ _ _ _ hk],fun k hk ho=>?_,?_,v,hc▸hv,fun k hk=>?_⟩
 · rw[nx_len] at hk;rw[nx_at _ _ _ _ _ hk];exact(hsv k hk).1
 · rw[nx_at _ _ _ _ _ hk];exact(hsv k hk).2 ho
 · rw[Zgp,nx_len,sgU_eq (g:=dlI T R l v (c-tot T R l v)) l.length (fun k hk=>by rw[nx_at _ _ _ _ _ hk]),dl_sum hok hv hb.2,hc]
 · rw[nx_at _ _ _ _ _ hk];exact dl_in hok v _ hk
theorem tot_ends{T R S C:Int}{l:List Sv}(hok:AllOk T R S C l):
 (-inT T l l.length≤tot T R l (-T)∧tot T R l (-T)≤smU l l.length)∧(smU l l.length≤tot T R l T∧tot T R l T≤inT T l l.length):=by
 have neg:∀n,-inT T l n=sgU (fun k=>if(svAt l k).2.2 then 0 else -T) n:=fun n=>by
  induction n with
  |zero=>simp[inT,sgU]
  |succ n i=>unfold inT at *;simp only[sgU];split<;>omega
 have pt:∀k,k<l.length→((if(svAt l k).2.2 then 0 else -T)≤tk T R (svAt l k) (-T)∧tk T R (svAt l k) (-T)≤(svAt l k).1)∧((svAt l k).1≤tk T R (svAt l k) T∧tk T R (svAt l k) T≤if(svAt l k).2.2 then 0 else T):=fun k hk=>by
  have a:=Zat hok.1;have s:=Zbd (hok.2 k hk)
  cases ho:(svAt l k).2.2
  · have x:=tk_in hok.1 (hok.2 k hk) ho (-T);have y:=tk_in hok.1 (hok.2 k hk) ho T;simp only[Bool.false_eq_true,if_false]
    omega
  · rw[ho] at s;have:=s.2.2.1 rfl;rw[Zhr ho,Zhr ho];simp only[if_true]
    omega
 rw[neg,Zgp]
 unfold tot
 rw[Zie,Zie]
 unfold inT
 exact⟨⟨Ziu _ fun k hk=>(pt k hk).1.1,Ziu _ fun k hk=>(pt k hk).1.2⟩,Ziu _ fun k hk=>(pt k hk).2.1,Ziu _ fun k hk=>(pt k hk).2.2⟩
def Apart(l:List Sv)(d:Int):Prop:=∀j k,j<l.length→k<l.length→(svAt l j).2.2=false→(svAt l k).2.2=false→(svAt l j).1-(svAt l k).1≤d
def SLst(w:World)(a:Option Addr)(l:List (Bool×Int)):Prop:=l=[]∨∃b off,a=some (Ad b off)∧∀k,k<l.length→w.cell? (Ad b (off+k*2))=some (.bool (l.getD k (false,0)).1)∧w.cell? (Ad b (off+k*2+1))=some (Vi (l.getD k (false,0)).2)
theorem SLst.later{w w':World}{a:Option Addr}{l:List (Bool×Int)}(h:SLst w a l)(hb:Below w.heap.size w w'):SLst w' a l:=by
 rcases h with h|⟨b,off,h,hc⟩
 · exact .inl h
 · exact .inr ⟨b,off,h,fun k hk=>⟨cell_later hb (hc k hk).1,cell_later hb (hc k hk).2⟩⟩
theorem SampAt.put{w:World}{B:Nat}{t:Nat→Bool}{s:Nat→Int}(h:SampAt w B t s)(k:Nat)(hk:k<3)(p:Bool)(q:Int):
 SampAt ((w.setCell (Ad B (k*2)) (.bool p)).setCell (Ad B (k*2+1)) (Vi q)) B (updB t k p) (updI s k q):=by
 obtain⟨h0,h1,h2,h3,h4,h5⟩:=h
 rcases(show k=0∨k=1∨k=2 by omega) with rfl|rfl|rfl
 · exact⟨Zad (Zao h0) (Zai (by decide)),Zao (Zad h1 (Zai (by decide))),Zad (Zad h2 (Zai (by decide))) (Zai (by decide)),Zad (Zad h3 (Zai (by decide))) (Zai (by decide)),Zad (Zad h4 (Zai (by decide))) (Zai (by decide)),Zad (Zad h5 (Zai (by decide))) (Zai (by decide))⟩
 · exact⟨Zad (Zad h0 (Zai (by decide))) (Zai (by decide)),Zad (Zad h1 (Zai (by decide))) (Zai (by decide)),Zad (Zao h2) (Zai (by decide)),Zao (Zad h3 (Zai (by decide))),Zad (Zad h4 (Zai (by decide))) (Zai (by decide)),Zad (Zad h5 (Zai (by decide))) (Zai (by decide))⟩
 · exact⟨Zad (Zad h0 (Zai (by decide))) (Zai (by decide)),Zad (Zad h1 (Zai (by decide))) (Zai (by decide)),Zad (Zad h2 (Zai (by decide))) (Zai (by decide)),Zad (Zad h3 (Zai (by decide))) (Zai (by decide)),Zad (Zao h4) (Zai (by decide)),Zao (Zad h5 (Zai (by decide)))⟩
structure TInv (q:Nat) (c far:Int) (b:Nat→Int) (o:Nat→Bool) (l:Int):Prop where
 bad:∀k,k<3→0≤b k∧b k≤10
 last:-1000000≤l∧l≤1000000
 good:∀k,k<3→k≠q→o k=false∧b k=0
 liar:q<3→o q=true∨(far≤b q∧b q<c)
 far0:0≤far
theorem TInv.new(q:Nat){c:Int}(hc:1≤c):TInv q c 0 zI zB 0:=
 ⟨fun _ _=>by simp[zI],by omega,fun _ _ _=>⟨rfl,rfl⟩,fun _=>.inr ⟨by simp[zI],by simp[zI];omega⟩,by omega⟩
structure TIn (q:Nat) (n tr:Int) (ly:Bool) (lz:Int) (t:Nat→Bool) (s:Nat→Int):Prop where
 hon:∀k,k<3→k≠q→t k=true∧tr-n≤s k∧s k≤tr+n
 lie:q<3→t q=ly∧s q=lz
 lz0:-1000000≤lz∧lz≤1000000
 tr0:-900000≤tr∧tr≤900000
 n0:0≤n∧n≤1000
theorem TIn.fit{q:Nat}{n tr:Int}{ly:Bool}{lz:Int}{t:Nat→Bool}{s:Nat→Int}(h:TIn q n tr ly lz t s)(k:Nat)(hk:k<3):-1000000≤s k∧s k≤1000000:=by
 have:=h.tr0;have:=h.n0;have:=h.lz0
 by_cases e:k=q
 · subst e;rw[(h.lie hk).2];omega
 · have:=h.hon k hk e;omega
theorem sik_nx(T R:Int)(L:List Sv)(s:Int):sik L (plI T R L s) L.length=nxL T R L (levI T R L (smI T R L s)) (smI T R L s):=by
 apply List.ext_getElem
 · simp[sik,nxL]
 · intro j h1 h2
   have hj:j<L.length:=by simpa[sik] using h1
   simp only[sik,nxL,List.getElem_map,List.getElem_range,if_pos hj]
   unfold plI
   rw[dlU_get _ _ _ _ _ _ _ hj]
theorem fr_of{T R S C:Int}{L:List Sv}(hok:AllOk T R S C L)(s:Int):Fr T R S C s L (sik L (plI T R L s) L.length):=by
 have a:=Zat hok.1;have hm:=Zdy T R L (show -T≤T by omega);rw[sik_nx];exact fr_mk hok (levI_is (by omega) (Zcd (v:=s) hm).1)
theorem Zjf{T R S C s:Int}{l l':List Sv}(f:Fr T R S C s l l')(hd:Apart l 1):Apart l' 1:=by
 intro j k hj hk hoj hok;rw[f.len] at hj hk;rw[f.out j hj] at hoj;rw[f.out k hk] at hok;obtain⟨v,_,hb⟩:=f.lev;have xj:=tk_in f.ok.1 (f.ok.2 j hj) hoj (v+1);have xk:=tk_in f.ok.1 (f.ok.2 k hk) hok v;have bj:=(hb j hj).2;have bk:=(hb k hk).1;have d1:=hd j k hj hk hoj hok;have d2:=hd k j hk hj hok hoj;have ar:=Zat f.ok.1
 omega
theorem sgU_add(f g:Nat→Int):∀n,sgU f n+sgU g n=sgU (fun k=>f k+g k) n
 |0=>by simp[sgU]
 |n+1=>by have:=sgU_add f g n;simp only[sgU];omega
theorem sgU_sub(f g:Nat→Int):∀n,sgU f n-sgU g n=sgU (fun k=>f k-g k) n
 |0=>by simp[sgU]
 |n+1=>by have:=sgU_sub f g n;simp only[sgU];omega
theorem reach_hi{T R S C:Int}{l:List Sv}(hok:AllOk T R S C l)(hd:Apart l 1):smU l l.length+inT R l l.length≤tot T R l T∨inT T l l.length≤tot T R l T:=by
 have ar:=Zat hok.1
 by_cases h:∃k,k<l.length∧(svAt l k).2.2=false∧T<(svAt l k).1+R
 · right
   obtain⟨m,hm,hom,hv⟩:=h
   unfold tot inT
   rw[Zie];refine Ziu _ fun k hk=>?_
   cases ho:(svAt l k).2.2
   · have:=hd m k hm hk hom ho;have:=tk_in hok.1 (hok.2 k hk) ho T;simp only[Bool.false_eq_true,if_false]
     omega
   · rw[Zhr ho];simp
 · left
   rw[Zgp]
   unfold tot inT
   rw[Zie,sgU_add];refine Ziu _ fun k hk=>?_;have sv:=Zbd (hok.2 k hk)
   cases ho:(svAt l k).2.2
   · have:=tk_in hok.1 (hok.2 k hk) ho T;have:¬T<(svAt l k).1+R:=fun e=>h ⟨k,hk,ho,e⟩;simp only[Bool.false_eq_true,if_false]
     omega
   · rw[Zhr ho,sv.2.2.1 ho];simp
theorem reach_lo{T R S C:Int}{l:List Sv}(hok:AllOk T R S C l)(hd:Apart l 1):tot T R l (-T)≤smU l l.length-inT R l l.length∨tot T R l (-T)≤-inT T l l.length:=by
 have ar:=Zat hok.1
 by_cases h:∃k,k<l.length∧(svAt l k).2.2=false∧(svAt l k).1-R< -T
 · right
   obtain⟨m,hm,hom,hv⟩:=h
   have e:-inT T l l.length=sgU (fun k=>0-if(svAt l k).2.2 then 0 else T) l.length:=by
    unfold inT
    rw[←sgU_sub]
    have:∀n,sgU (fun _=>0) n=0:=fun n=>by induction n with|zero=>rfl|succ n ih=>simp[sgU,ih]
    rw[this];omega
   rw[e]
   unfold tot
   rw[Zie];refine Ziu _ fun k hk=>?_
   cases ho:(svAt l k).2.2
   · have:=hd k m hk hm ho hom;have:=tk_in hok.1 (hok.2 k hk) ho (-T);simp only[Bool.false_eq_true,if_false]
     omega
   · rw[Zhr ho];simp
 · left
   rw[Zgp]
   unfold tot inT
   rw[Zie,sgU_sub];refine Ziu _ fun k hk=>?_;have sv:=Zbd (hok.2 k hk)
   cases ho:(svAt l k).2.2
   · have:=tk_in hok.1 (hok.2 k hk) ho (-T);have:¬(svAt l k).1-R< -T:=fun e=>h ⟨k,hk,ho,e⟩;simp only[Bool.false_eq_true,if_false]
     omega
   · rw[Zhr ho,sv.2.2.1 ho];simp
theorem inN_ge{l:List Sv}{u:Nat}:∀n,(∀k,k<n→k≠u→(svAt l k).2.2=false)→(n≤u→inN l n=n)∧n≤inN l n+1
 |0,_=>⟨fun _=>rfl,by simp[inN]⟩
 |n+1,h=>by
  obtain⟨a,b⟩:=inN_ge n fun k hk hu=>h k (by omega) hu;simp only[inN]
  by_cases e:n=u
  · subst e;refine⟨fun x=>by omega,?_⟩;rw[a (Nat.le_refl _)]
    split<;>omega
  · rw[h n (by omega) e];simp only[Bool.false_eq_true,if_false];exact⟨fun x=>by rw[a (by omega)],by omega⟩
theorem inN_lt{l:List Sv}{u:Nat}:∀n,u<n→(svAt l u).2.2=true→inN l n+1≤n
 |0,h,_=>by omega
 |n+1,h,ho=>by
  simp only[inN]
  by_cases e:u=n
  · subst e;rw[ho];have:=inN_le l u;simp;omega
  · have:=inN_lt n (by omega) ho
    split<;>omega
theorem reach_all{T R S C n c:Int}{l:List Sv}{u:Nat}(hok:AllOk T R S C l)(hd:Apart l 1)(hn:(l.length:Int)=n)(hr:∀k,k<l.length→k≠u→(svAt l k).2.2=false)
 (h0:-((n-1)*T)≤c) (h1:c≤(n-1)*T) (h2:smU l l.length-(n-1)*R≤c) (h3:c≤smU l l.length+(n-1)*R):tot T R l (-T)≤c∧c≤tot T R l T:=by
 have ar:=Zat hok.1;have g:=(inN_ge (l:=l) (u:=u) l.length hr).2;have a:=Int.mul_le_mul_of_nonneg_right (show n-1≤(inN l l.length:Int) by omega) (show 0≤T by omega);have b:=Int.mul_le_mul_of_nonneg_right (show n-1≤(inN l l.length:Int) by omega) (show 0≤R by omega);rw[←inT_is] at a b;have p:=reach_hi hok hd;have q:=reach_lo hok hd
 omega
theorem kept_move{L H N P M R x q y E s u a b:Int}(g:GOK L H N P M R)(_hE:0≤E)(k:Kept (L-E) (H+E) P M R x q)(hy:x-N≤y)(hy':y≤x+N)(hu:-P≤u)(hu':u≤P)
 (A:IsHi R P (-Zcp M R q) (-Zco M R q) (y-N-L) a) (B:IsHi R P (Zco M R q) (Zcp M R q) (H-N-y) b) (hs:-a≤s) (hs':s≤b):
 Kept (L-E) (H+E) P M R (x+s+u) s∧-R≤s-q∧s-q≤R:=by
 have c:=can_le g.r0 g.m0 k.q0 k.q1;have U:=one_side (H:=H+E) (N:=N+E) (u:=u) (s:=s) g.r0 g.pm (canLo_or M R q) k.hi k.up (y:=y) (by omega)
  (by rw[show H+E-(N+E)-y=H-N-y by omega];exact B) hs' (by have:=A.2.1;omega) hu'
 have D:=one_side (H:=-(L-E)) (N:=N+E) (x:=-x) (y:=-y) (u:=-u) (s:=-s) (q:=-q) g.r0 g.pm (canHi_or M R q) (by have:=k.lo;omega) k.dn (by omega)
  (by rw[show -(L-E)-(N+E)- -y=y-N-L by omega];exact A) (by omega) (by have:=B.2.1;omega) (by omega)
 have a2:=A.2.1;have b2:=B.2.1;exact⟨⟨by omega,U.1,by omega,by omega,U.2,by omega⟩,by omega,by omega⟩
theorem kept_wide{L H P M R x q d e:Int}(k:Kept L H P M R x q)(h0:-e≤d)(h1:d≤e):Kept (L-e) (H+e) P M R (x+d) q:=by
 obtain⟨a,b,c,f,g,h⟩:=k;exact⟨by omega,by omega,c,f,by omega,by omega⟩
theorem kept_turn{L H P M R x q p:Int}(k:Kept L H P M R x q)(hR:1≤R)(h0:-M≤p)(h1:p≤M):Kept (L-bk R (M+P)) (H+bk R (M+P)) P M R x p:=by
 obtain⟨a,b,c,f,g,h⟩:=k;have n:=Zbs R (M+P);have m1:=Zge (R:=R) (f:=p-R+P) (g:=M+P) (by omega) (by omega);have m2:=Zge (R:=R) (f:=-p-R+P) (g:=M+P) (by omega) (by omega);exact⟨by omega,by omega,h0,h1,by omega,by omega⟩
section
variable {C : CR} {l : List Ft} {now : Int} {x : Nat → Int} {at' : Nat → Nat → Int} {s : Stp}
end
section
variable {C : CR} {l : List Ft} {now : Int} {q : FT} {s : Stp}
end
end Go.Proofs.YtnfdfiholcelaaaGreatDoor
