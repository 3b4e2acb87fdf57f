import Derived.Deep.RegionHeld3
import Derived.Deep.CutRange
import Derived.BigQuiet
import Derived.Deep.QuietTactic
import Derived.BigRegion
import Derived.ChangeKeysEq
import Derived.Test.YtnfdfiholcelaaaGreatDoorJh00
import Derived.Test.YtnfdfiholcelaaaGreatDoorJh04
import Derived.Test.YtnfdfiholcelaaaGreatDoorJh05
set_option maxRecDepth 100000
set_option maxHeartbeats 20000000
namespace Go.Proofs.YtnfdfiholcelaaaGreatDoor
open Go.RowKit Plain Tryz
def mayR(a b c d:Int):Bool:=(decide (0≤a)&&decide (a<256))&&(decide (0≤b)&&decide (b<4))&&(decide (0≤c)&&decide (c<4))&&(decide (-262144≤d)&&decide (d<262144))
theorem Ziw{a b c d:Int}(h:mayR a b c d=true):(0≤a∧a<256)∧(0≤b∧b<4)∧(0≤c∧c<4)∧-262144≤d∧d<262144:=by
 simp[mayR] at h;omega
theorem wHold_any(d:Int)(w:World):Calls prog 193 #[Vi d] w fun e w'=>e=.returned (Vi (Zal d (-262144) 262143))∧w'=w:=by
 go_enter func193,ntmps193
 go_wp2_with (go_at_call 172;refine(Zay _ _ _ _).mono ?_;rintro e w' ⟨rfl,rfl⟩);go_ret;exact⟨rfl,rfl⟩
theorem check_any(a b c d:Int)(w:World):
 Calls prog 133 #[.agg #[Vi a,Vi b,Vi c,Vi d]] w fun e w'=>e=.returned (errV (if mayR a b c d then 0 else 1))∧Below w.heap.size w w':=by
 have f1:=fits_8 a;have f2:=fits_2 b;have f3:=fits_2 c;have hh:=wHold_any d
 have hd:(d != Zal d (-262144) 262143)=!(decide (-262144≤d)&&decide (d<262144)):=by
  unfold Zal
  by_cases h1:d< -262144
  · rw[if_pos h1,decide_eq_false (show ¬-262144≤d by omega)];simp;omega
  · rw[if_neg h1,if_neg (by omega),decide_eq_true (show -262144≤d by omega)]
    by_cases h2:262143<d
    · rw[if_pos h2,decide_eq_false (show ¬d<262144 by omega)];simp;omega
    · rw[if_neg h2,decide_eq_true (show d<262144 by omega)];simp
 unfold mayR
 generalize Zal d (-262144) 262143=k at *;generalize (decide (0≤a)&&decide (a<256))=x1 at *;generalize (decide (0≤b)&&decide (b<4))=x2 at *;generalize (decide (0≤c)&&decide (c<4))=x3 at *;generalize (decide (-262144≤d)&&decide (d<262144))=x4 at*
 rcases(show x1=false∨(x1=true∧x2=false)∨(x1=true∧x2=true∧x3=false)∨(x1=true∧x2=true∧x3=true∧x4=false)∨(x1=true∧x2=true∧x3=true∧x4=true) by cases x1<;>cases x2<;>cases x3<;>cases x4<;>simp) with rfl|⟨rfl,rfl⟩|⟨rfl,rfl,rfl⟩|⟨rfl,rfl,rfl,rfl⟩|⟨rfl,rfl,rfl,rfl⟩
 · go_enter func133,ntmps133
   go_wp2_with (first|((first|go_at_call_of 192 (Vi a)|go_at_call_of 192 (Value.int .i64 a));refine(f1 _).mono ?_;rintro e w' ⟨rfl,rfl⟩)|((first|go_at_call_of 192 (Vi b)|go_at_call_of 192 (Value.int .i64 b));refine(f2 _).mono ?_;rintro e w' ⟨rfl,rfl⟩)|((first|go_at_call_of 192 (Vi c)|go_at_call_of 192 (Value.int .i64 c));refine(f3 _).mono ?_;rintro e w' ⟨rfl,rfl⟩));go_ret;exact⟨rfl,Zaa _ _⟩
 · go_enter func133,ntmps133
   go_wp2_with (first|((first|go_at_call_of 192 (Vi a)|go_at_call_of 192 (Value.int .i64 a));refine(f1 _).mono ?_;rintro e w' ⟨rfl,rfl⟩)|((first|go_at_call_of 192 (Vi b)|go_at_call_of 192 (Value.int .i64 b));refine(f2 _).mono ?_;rintro e w' ⟨rfl,rfl⟩)|((first|go_at_call_of 192 (Vi c)|go_at_call_of 192 (Value.int .i64 c));refine(f3 _).mono ?_;rintro e w' ⟨rfl,rfl⟩));go_ret;exact⟨rfl,Zaa _ _⟩
 · go_enter func133,ntmps133
   go_wp2_with (first|((first|go_at_call_of 192 (Vi a)|go_at_call_of 192 (Value.int .i64 a));refine(f1 _).mono ?_;rintro e w' ⟨rfl,rfl⟩)|((first|go_at_call_of 192 (Vi b)|go_at_call_of 192 (Value.int .i64 b));refine(f2 _).mono ?_;rintro e w' ⟨rfl,rfl⟩)|((first|go_at_call_of 192 (Vi c)|go_at_call_of 192 (Value.int .i64 c));refine(f3 _).mono ?_;rintro e w' ⟨rfl,rfl⟩));go_ret;exact⟨rfl,Zaa _ _⟩
 all_goals
  simp only[Bool.not_false,Bool.not_true] at hd
  go_enter func133,ntmps133
  go_wp2_with (first|((first|go_at_call_of 192 (Vi a)|go_at_call_of 192 (Value.int .i64 a));refine(f1 _).mono ?_;rintro e w' ⟨rfl,rfl⟩)|((first|go_at_call_of 192 (Vi b)|go_at_call_of 192 (Value.int .i64 b));refine(f2 _).mono ?_;rintro e w' ⟨rfl,rfl⟩)|((first|go_at_call_of 192 (Vi c)|go_at_call_of 192 (Value.int .i64 c));refine(f3 _).mono ?_;rintro e w' ⟨rfl,rfl⟩));go_quiet ((go_at_call 193;exact Calls.quiet_of_same (hh _)));go_wp2;go_ret;exact⟨rfl,below_drewN (Zaa _ _) _⟩
def Zgn(a b c d:Int):Int:=Lib.rev8 a+b*256+d%524288*1024+c*536870912
def Zcy(a b c d:Int):Int:=if ones (Zgn a b c d) 32%2=1 then Zgn a b c d else Zgn a b c d+2147483648
theorem box4{w w':World}{a b c d:Int}{T:TypeId}(hb:Below (w.alloc (.cells #[Vi a,Vi b,Vi c,Vi d] T)).heap.size (w.alloc (.cells #[Vi a,Vi b,Vi c,Vi d] T)) w'):
 w'.cell? (Ad w.heap.size 0)=some (Vi a)∧w'.cell? (Ad w.heap.size 1)=some (Vi b)∧w'.cell? (Ad w.heap.size 2)=some (Vi c)∧w'.cell? (Ad w.heap.size 3)=some (Vi d):=
 ⟨cell_later hb (by simp[go_sem]),cell_later hb (by simp[go_sem]),cell_later hb (by simp[go_sem]),cell_later hb (by simp[go_sem])⟩
theorem pack_yes(a b c d:Int)(hm:mayR a b c d=true)(w:World):
 Calls prog 84 #[.agg #[Vi a,Vi b,Vi c,Vi d]] w fun e w'=>e=.returned (.tuple #[.int .u32 (Zcy a b c d),.nilIface])∧Below w.heap.size w w':=by
 have hc:=check_any a b c d;rw[hm,if_pos rfl,Zar] at hc;obtain⟨⟨a0,a1⟩,⟨b0,b1⟩,⟨c0,c1⟩,d0,d1⟩:=Ziw hm;obtain⟨r0,r1⟩:=Zey a a0 (by omega)
 have e1:bits .or .u32 (Lib.rev8 a) (b*256)=Lib.rev8 a+b*256:=by
  rw[u32_or _ _ r0 (by omega) (by omega) (by omega),Nat.or_comm,nat_join 8 _ _ (by omega) (by omega)];omega
 have e2:bits .or .u32 (Lib.rev8 a+b*256) (d%524288*1024)=Lib.rev8 a+b*256+d%524288*1024:=by
  rw[u32_or _ _ (by omega) (by omega) (by omega) (by omega),Nat.or_comm,nat_join 10 _ _ (by omega) (by omega)];omega
 have e3:bits .or .u32 (Lib.rev8 a+b*256+d%524288*1024) (c*536870912)=Lib.rev8 a+b*256+d%524288*1024+c*536870912:=by
  rw[u32_or _ _ (by omega) (by omega) (by omega) (by omega),Nat.or_comm,nat_join 29 _ _ (by omega) (by omega)];omega
 have e4:bits .or .u32 (Lib.rev8 a+b*256+d%524288*1024+c*536870912) 2147483648=Lib.rev8 a+b*256+d%524288*1024+c*536870912+2147483648:=by
  rw[u32_or _ _ (by omega) (by omega) (by omega) (by omega),Nat.or_comm,nat_join 31 _ _ (by omega) (by omega)];omega
 have ho:=isOdd_any (Zgn a b c d) (by unfold Zgn;omega) (by unfold Zgn;omega)
 by_cases hodd:ones (Zgn a b c d) 32%2=1
 · have hp:Zcy a b c d=Lib.rev8 a+b*256+d%524288*1024+c*536870912:=by unfold Zcy;rw[if_pos hodd];rfl
   rw[decide_eq_true hodd] at ho;rw[hp]
   unfold Zgn at ho
   clear hodd hp e4
   go_enter func84,ntmps84
   go_wp2_with (first
    |(go_at_call 133;refine Sb (hc _) fun w' hb=>?_;obtain⟨q0,q1,q2,q3⟩:=box4 hb;have HB:Hid (Below _ _ _):=hb;clear hb)
    |(go_at_call 134;refine(rev_any _ (by omega) (by omega) _).mono ?_;rintro e w' ⟨rfl,rfl⟩)
    |(go_at_call 135;refine(part_0_19 _ (by omega) (by omega) _).mono ?_;rintro e w' ⟨rfl,k,rfl⟩)
    |(go_at_call 136;refine(ho _).mono ?_;rintro e w' ⟨rfl,k2,rfl⟩))
   go_ret2;exact⟨rfl,below_drewN (Zac (Zaa _ _) HB.out) _⟩
 · have hp:Zcy a b c d=Lib.rev8 a+b*256+d%524288*1024+c*536870912+2147483648:=by unfold Zcy;rw[if_neg hodd];rfl
   rw[decide_eq_false hodd] at ho;rw[hp]
   unfold Zgn at ho
   clear hodd hp
   go_enter func84,ntmps84
   go_wp2_with (first
    |(go_at_call 133;refine Sb (hc _) fun w' hb=>?_;obtain⟨q0,q1,q2,q3⟩:=box4 hb;have HB:Hid (Below _ _ _):=hb;clear hb)
    |(go_at_call 134;refine(rev_any _ (by omega) (by omega) _).mono ?_;rintro e w' ⟨rfl,rfl⟩)
    |(go_at_call 135;refine(part_0_19 _ (by omega) (by omega) _).mono ?_;rintro e w' ⟨rfl,k,rfl⟩)
    |(go_at_call 136;refine(ho _).mono ?_;rintro e w' ⟨rfl,k2,rfl⟩))
   go_ret2;exact⟨rfl,below_drewN (Zac (Zaa _ _) HB.out) _⟩
def labI(x:Int):Int:=Lib.rev8 (x%256)
def srcI(x:Int):Int:=x/256%4
def staI(x:Int):Int:=x/536870912%4
def datI(x:Int):Int:=if 262143<x/1024%524288 then x/1024%524288-524288 else x/1024%524288
def readV(x:Int):Value:=.agg #[Vi (labI x),Vi (srcI x),Vi (staI x),Vi (datI x)]
def partI(x a b:Int):Int:=x/2^a.toNat%2^b.toNat
theorem part_of(x a b:Int)(h0:0≤x)(h1:x<4294967296)(h:(a=8∧b=2)∨(a=29∧b=2)∨(a=10∧b=19))(w:World):
 Calls prog 135 #[.int .u32 x,Vi a,Vi b] w fun e w'=>e=.returned (.int .u32 (partI x a b))∧∃k,w'=w.drewN k:=by
 rcases h with⟨rfl,rfl⟩|⟨rfl,rfl⟩|⟨rfl,rfl⟩
 · exact part_8_2 x h0 h1 w
 · exact part_29_2 x h0 h1 w
 · exact part_10_19 x h0 h1 w
def Box4(w:World)(b:Nat)(x y z u:Int):Prop:=
 w.cell? (Ad b 0)=some (Vi x)∧w.cell? (Ad b 1)=some (Vi y)∧w.cell? (Ad b 2)=some (Vi z)∧w.cell? (Ad b 3)=some (Vi u)
 ∧w.frozen? (Ad b 0)=false∧w.frozen? (Ad b 1)=false∧w.frozen? (Ad b 2)=false∧w.frozen? (Ad b 3)=false∧b<w.heap.size
theorem Box4.new(w:World)(x y z u:Int)(T:TypeId):Box4 (w.alloc (.cells #[Vi x,Vi y,Vi z,Vi u] T)) w.heap.size x y z u:=by
 refine⟨?_,?_,?_,?_,?_,?_,?_,?_,?_⟩<;>simp[go_sem]
theorem Box4.later{w w':World}{b:Nat}{x y z u:Int}(h:Box4 w b x y z u)(hb:Below w.heap.size w w'):Box4 w' b x y z u:=by
 obtain⟨h1,h2,h3,h4,h5,h6,h7,h8,h9⟩:=h;exact⟨cell_later hb h1,cell_later hb h2,cell_later hb h3,cell_later hb h4,(hb.frozen (p:=⟨b,0,none⟩) h9).trans h5,(hb.frozen (p:=⟨b,1,none⟩) h9).trans h6,(hb.frozen (p:=⟨b,2,none⟩) h9).trans h7,(hb.frozen (p:=⟨b,3,none⟩) h9).trans h8,Nat.lt_of_lt_of_le h9 hb.size⟩
theorem Box4.set{w:World}{b:Nat}{x y z u:Int}(h:Box4 w b x y z u)(p q r s:Int):
 Box4 ((((w.setCell (Ad b 0) (Vi p)).setCell (Ad b 1) (Vi q)).setCell (Ad b 2) (Vi r)).setCell (Ad b 3) (Vi s)) b p q r s:=by
 obtain⟨h1,h2,h3,h4,h5,h6,h7,h8,h9⟩:=h;exact⟨by simp[go_sem, *],by simp[go_sem, *],by simp[go_sem, *],by simp[go_sem, *],by simp[go_sem, *],by simp[go_sem, *],by simp[go_sem, *],by simp[go_sem, *],by simpa[go_sem] using h9⟩
theorem Box4.set0{w:World}{b:Nat}{x y z u:Int}(h:Box4 w b x y z u)(p:Int):Box4 (w.setCell (Ad b 0) (Vi p)) b p y z u:=by
 obtain⟨h1,h2,h3,h4,h5,h6,h7,h8,h9⟩:=h;exact⟨by simp[go_sem, *],by simp[go_sem, *],by simp[go_sem, *],by simp[go_sem, *],by simp[go_sem, *],by simp[go_sem, *],by simp[go_sem, *],by simp[go_sem, *],by simpa[go_sem] using h9⟩
theorem Box4.set1{w:World}{b:Nat}{x y z u:Int}(h:Box4 w b x y z u)(p:Int):Box4 (w.setCell (Ad b 1) (Vi p)) b x p z u:=by
 obtain⟨h1,h2,h3,h4,h5,h6,h7,h8,h9⟩:=h;exact⟨by simp[go_sem, *],by simp[go_sem, *],by simp[go_sem, *],by simp[go_sem, *],by simp[go_sem, *],by simp[go_sem, *],by simp[go_sem, *],by simp[go_sem, *],by simpa[go_sem] using h9⟩
theorem Box4.set2{w:World}{b:Nat}{x y z u:Int}(h:Box4 w b x y z u)(p:Int):Box4 (w.setCell (Ad b 2) (Vi p)) b x y p u:=by
 obtain⟨h1,h2,h3,h4,h5,h6,h7,h8,h9⟩:=h;exact⟨by simp[go_sem, *],by simp[go_sem, *],by simp[go_sem, *],by simp[go_sem, *],by simp[go_sem, *],by simp[go_sem, *],by simp[go_sem, *],by simp[go_sem, *],by simpa[go_sem] using h9⟩
theorem Box4.set3{w:World}{b:Nat}{x y z u:Int}(h:Box4 w b x y z u)(p:Int):Box4 (w.setCell (Ad b 3) (Vi p)) b x y z p:=by
 obtain⟨h1,h2,h3,h4,h5,h6,h7,h8,h9⟩:=h;exact⟨by simp[go_sem, *],by simp[go_sem, *],by simp[go_sem, *],by simp[go_sem, *],by simp[go_sem, *],by simp[go_sem, *],by simp[go_sem, *],by simp[go_sem, *],by simpa[go_sem] using h9⟩
theorem Box4.else{w:World}{b c o:Nat}{x y z u:Int}{v:Value}(h:Box4 w b x y z u)(hc:c≠b):Box4 (w.setCell (Ad c o) v) b x y z u:=by
 obtain⟨h1,h2,h3,h4,h5,h6,h7,h8,h9⟩:=h;exact⟨(World.cell?_setCell_other _ _ _ _ (fun e=>hc (congrArg Addr.block e))).trans h1,(World.cell?_setCell_other _ _ _ _ (fun e=>hc (congrArg Addr.block e))).trans h2,(World.cell?_setCell_other _ _ _ _ (fun e=>hc (congrArg Addr.block e))).trans h3,(World.cell?_setCell_other _ _ _ _ (fun e=>hc (congrArg Addr.block e))).trans h4,by simp[go_sem,h5],by simp[go_sem,h6],by simp[go_sem,h7],by simp[go_sem,h8],by simpa[go_sem] using h9⟩
theorem Box4.drew{w:World}{b:Nat}{x y z u:Int}(h:Box4 w b x y z u):Box4 w.drew b x y z u:=h.later (Below.refl _ _).drew
theorem Zef{B:Nat}{w0 w:World}{b:Nat}(hb:Below B w0 w)(h:B≤b)(p q r s:Value):
 Below B w0 ((((w.setCell (Ad b 0) p).setCell (Ad b 1) q).setCell (Ad b 2) r).setCell (Ad b 3) s):=
 (((hb.setCell h _).setCell h _).setCell h _).setCell h _
theorem unpack_no(x:Int)(h0:0≤x)(h1:x<4294967296)(h:¬ones x 32%2=1)(w:World):
 Calls prog 148 #[.int .u32 x] w fun e w'=>e=.returned (.tuple #[.agg #[Vi 0,Vi 0,Vi 0,Vi 0],errV 3])∧Below w.heap.size w w':=by
 have ho:=isOdd_any x h0 h1;rw[decide_eq_false h] at ho;rw[Zbg (by decide)];clear h
 go_enter func148,ntmps148
 go_wp2_with (go_at_call 136;refine(ho _).mono ?_;rintro e w' ⟨rfl,k2,rfl⟩);have HX:Hid (Box4 ((w.alloc (.cells #[Vi 0,Vi 0,Vi 0,Vi 0] 161)).drewN k2) w.heap.size 0 0 0 0):=(Box4.new w 0 0 0 0 161).later (below_drewN (Below.refl _ _) _);have HB:Hid (Below w.heap.size w ((w.alloc (.cells #[Vi 0,Vi 0,Vi 0,Vi 0] 161)).drewN k2)):=below_drewN (Zaa _ _) _;generalize ((w.alloc (.cells #[Vi 0,Vi 0,Vi 0,Vi 0] 161)).drewN k2)=w1 at *;have hx:=HX.out.set 0 0 0 0;have hb:=Zef HB.out (Nat.le_refl _) (Vi 0) (Vi 0) (Vi 0) (Vi 0);generalize ((((w1.setCell (Ad w.heap.size 0) (Vi 0)).setCell (Ad w.heap.size 1) (Vi 0)).setCell (Ad w.heap.size 2) (Vi 0)).setCell (Ad w.heap.size 3) (Vi 0))=w2 at *;obtain⟨c0,c1,c2,c3,_⟩:=hx;exact bodyPost_ret (v:=.tuple #[.agg #[Vi 0,Vi 0,Vi 0,Vi 0],.iface 44 (Vi 3)]) (by simp[results,results148,go_sem,c0,c1,c2,c3]) rfl ⟨rfl,hb⟩
theorem unpack_yes(x:Int)(h0:0≤x)(h1:x<4294967296)(h:ones x 32%2=1)(w:World):
 Calls prog 148 #[.int .u32 x] w fun e w'=>e=.returned (.tuple #[readV x,.nilIface])∧Below w.heap.size w w':=by
 have ho:=isOdd_any x h0 h1;rw[decide_eq_true h] at ho;clear h;have hr:=rev_any (x%256) (by omega) (by omega);have rb:=Zey (x%256) (by omega) (by omega);have e1:partI x 8 2=x/256%4:=rfl;have e2:partI x 29 2=x/536870912%4:=rfl;have e3:partI x 10 19=x/1024%524288:=rfl;have hs:=signed_any (x/1024%524288) (by omega) (by omega)
 have b1:0≤x/256%4∧x/256%4<4:=by omega
 have b2:0≤x/536870912%4∧x/536870912%4<4:=by omega
 unfold readV labI srcI staI datI
 generalize (if 262143<x/1024%524288 then x/1024%524288-524288 else x/1024%524288)=dd at *;generalize x/1024%524288=d at *;generalize x/256%4=b at *;generalize x/536870912%4=c at *;generalize Lib.rev8 (x%256)=a at*
 go_enter func148,ntmps148
 go_wp2_with (first
  |(go_at_call 136;refine(ho _).mono ?_;rintro e w' ⟨rfl,k0,rfl⟩)
  |(go_at_call 134;refine(hr _).mono ?_;rintro e w' ⟨rfl,rfl⟩)
  |(go_at_call 201;refine(hs _).mono ?_;rintro e w' ⟨rfl,rfl⟩)
  |(go_at_call 135;refine(part_of _ _ _ h0 h1 (by decide) _).mono ?_;rintro e w' ⟨rfl,k1,rfl⟩))
 rename_i ka kb
 generalize k0+ka+kb+k1=k2;have HX:Hid (Box4 ((w.alloc (.cells #[Vi 0,Vi 0,Vi 0,Vi 0] 161)).drewN k2) w.heap.size 0 0 0 0):=(Box4.new w 0 0 0 0 161).later (below_drewN (Below.refl _ _) _);have HB:Hid (Below w.heap.size w ((w.alloc (.cells #[Vi 0,Vi 0,Vi 0,Vi 0] 161)).drewN k2)):=below_drewN (Zaa _ _) _;generalize ((w.alloc (.cells #[Vi 0,Vi 0,Vi 0,Vi 0] 161)).drewN k2)=w1 at *;have hx:=HX.out.set a b c dd;have hb:=Zef HB.out (Nat.le_refl _) (Vi a) (Vi b) (Vi c) (Vi dd);generalize ((((w1.setCell (Ad w.heap.size 0) (Vi a)).setCell (Ad w.heap.size 1) (Vi b)).setCell (Ad w.heap.size 2) (Vi c)).setCell (Ad w.heap.size 3) (Vi dd))=w2 at *;obtain⟨c0,c1,c2,c3,_⟩:=hx;exact bodyPost_ret (v:=.tuple #[.agg #[Vi a,Vi b,Vi c,Vi dd],.nilIface]) (by simp[results,results148,go_sem,c0,c1,c2,c3]) rfl ⟨rfl,hb⟩
theorem Zea(j k:Nat)(h:j≤k):(2:Int)^j≤2^k:=by
 have:(2:Nat)^j≤2^k:=Nat.pow_le_pow_right (by decide) h
 exact_mod_cast this
theorem turn_bounds(x:Int):∀k:Nat,0≤turn x k∧turn x k<2^k
 |0=>by simp[turn]
 |k+1=>by
  have h:=turn_bounds x k;rw[turn,Int.pow_succ]
  omega
theorem turn_le(x:Int)(k:Nat)(hk:k≤8):0≤turn x k∧turn x k≤255:=by
 have h:=turn_bounds x k;have:(2:Int)^k≤2^8:=Zea k 8 hk
 omega
theorem low_bounds(x:Int)(k:Nat)(hk:k≤18):0≤low x k∧low x k<262144:=by
 rw[Zeu];have hp:(0:Int)<2^k:=Int.pow_pos (by decide);have:=Int.emod_nonneg x (Int.ne_of_gt hp);have:=Int.emod_lt_of_pos x hp;have:(2:Int)^k≤2^18:=Zea k 18 hk
 omega
def btI(x i:Int):Int:=x/2^i.toNat%2
theorem Zen(x i:Int):0≤btI x i∧btI x i≤1:=by unfold btI;omega
theorem Zgm(x i:Int)(h0:0≤i)(h1:i≤63)(w:World):
 Calls prog 126 #[Vi x,Vi i] w fun e w'=>e=.returned (Vi (btI x i))∧w'=w:=bit_any x i h0 h1 w
theorem low_step(x:Int)(k:Nat):low (x/1024) (k+1)=low (x/1024) k+btI x (10+(k:Int))*2^k:=by
 rw[low,btI,show(10+(k:Int)).toNat=10+k by omega,←div_pow_add]
 rfl
theorem turn_step(x:Int)(k:Nat):turn x (k+1)=2*turn x k+btI x k:=by rw[turn,btI];rfl
theorem src_bits(x:Int):btI x 8+2*btI x 9=srcI x:=by unfold btI srcI;simp only[Int.reduceToNat,Int.reducePow];omega
theorem sta_bits(x:Int):btI x 29+2*btI x 30=staI x:=by unfold btI staI;simp only[Int.reduceToNat,Int.reducePow];omega
theorem dat_bits(x:Int):low (x/1024) 18-btI x 28*262144=datI x:=by
 rw[Zeu];unfold btI datI;simp only[Int.reduceToNat,Int.reducePow];split<;>omega
theorem lab_turn(x:Int):turn x 8=labI x:=by
 unfold labI
 rw[rev_eq _ (by omega) (by omega),turn_low]
theorem shift_bd(b:Int)(k:Nat)(hk:k≤17)(h0:0≤b)(h1:b≤1):0≤b*2^k∧b*2^k≤131072:=by
 have hp:(0:Int)<2^k:=Int.pow_pos (by decide);have hm:(2:Int)^k≤2^17:=Zea k 17 hk;refine⟨Int.mul_nonneg h0 (Int.le_of_lt hp),?_⟩;have:=Int.mul_le_mul_of_nonneg_right h1 (Int.le_of_lt hp)
 omega
theorem readingOf_any(x:Int)(h0:0≤x)(h1:x<4294967296)(w:World):
 Calls prog 91 #[.int .u32 x] w fun e w'=>e=.returned (readV x)∧Below w.heap.size w w':=by
 go_enter func91,ntmps91
 go_wp2
 go_loopw [5] (fun i wr=>∃k:Nat,k≤8∧i=Vi k∧Box4 wr w.heap.size 0 0 0 0∧Box4 wr (w.heap.size+1) (turn x k) 0 0 0∧Below w.heap.size w wr) (fun i _=>8-(intOf i).toNat)
 case atStart=>
  refine⟨0,by omega,rfl,?_,?_,?_⟩
  · exact(Box4.new _ _ _ _ _ _).later (Zaa _ _)
  · have:=Box4.new (w.alloc (.cells #[Vi 0,Vi 0,Vi 0,Vi 0] 161)) 0 0 0 0 161
    simpa[go_sem,turn] using this
  · exact Zac (Zaa _ _) (Zaa _ _)
 case round=>
  obtain⟨k,hk,rfl,hx,hy,hb⟩:=hrel
  by_cases hlt:k<8
  · have ht:=turn_le x k (by omega);have hs:Hid (turn x (k+1)=2*turn x k+btI x k):=turn_step x k;have HY:Hid (Box4 wr (w.heap.size+1) (turn x k) 0 0 0):=hy;have HX:Hid (Box4 wr w.heap.size 0 0 0 0):=hx;obtain⟨c0,c1,c2,c3,d0,d1,d2,d3,dl⟩:=hy;have hbt:=Zgm x k (by omega) (by omega);have hbd:=Zen x k;clear hx;generalize turn x k=t at *;generalize btI x k=b at*
    have hw1:IntKind.i64.wrap (2*t)=2*t:=by rw[IntKind.wrap_i64];omega
    have hw2:IntKind.i64.wrap (2*t+b)=2*t+b:=by rw[IntKind.wrap_i64];omega
    go_wp2
    go_region_with (go_at_call 126;refine(hbt _).mono ?_;rintro e w' ⟨rfl,rfl⟩)
    all_goals
     go_wp2;go_roundw
     (case rel=>exact⟨k+1,by omega,by go_num,(HX.out.else (by omega)).drew,by rw[hs.out];exact(HY.out.set0 _).drew,(hb.setCell (by simp) _).drew⟩)
     (case measure=>simp[intOf];omega)
  · have e:k=8:=by omega
    subst e;rw[lab_turn] at hy
    have hl:0≤labI x∧labI x≤255:=by rw[←lab_turn];exact turn_le x 8 (by omega)
    have b8:=Zen x 8;have b9:=Zen x 9;have b29:=Zen x 29;have b30:=Zen x 30;have HS:Hid (btI x 8+2*btI x 9=srcI x∧btI x 29+2*btI x 30=staI x):=⟨src_bits x,sta_bits x⟩;have HY:Hid (Box4 wr (w.heap.size+1) (labI x) 0 0 0):=hy;have HX:Hid (Box4 wr w.heap.size 0 0 0 0):=hx;obtain⟨c0,c1,c2,c3,d0,d1,d2,d3,dl⟩:=hy;clear hx;have HB:Hid (Below w.heap.size w wr):=hb;clear hb
    go_wp2_with (go_at_call 126;refine(Zgm _ _ (by omega) (by omega) _).mono ?_;rintro e w' ⟨rfl,rfl⟩)
    go_loopw [6] (fun i wr2=>∃k:Nat,k≤18∧i=Vi k∧Box4 wr2 w.heap.size 0 0 0 0∧Box4 wr2 (w.heap.size+1) (labI x) (srcI x) (staI x) (low (x/1024) k)∧Below w.heap.size w wr2) (fun i _=>18-(intOf i).toNat)
    case atStart=>
     refine⟨0,by omega,rfl,(HX.out.else (by omega)).else (by omega),?_,(HB.out.setCell (by simp) _).setCell (by simp) _⟩;rw[←HS.out.1,←HS.out.2];exact(HY.out.set1 _).set2 _
    case round=>
     rename_i wr2
     clear HX HY HB c0 c1 c2 c3 d0 d1 d2 d3 dl b8 b9 b29 b30;obtain⟨k,hk,rfl,hx,hy,hb⟩:=hrel
     by_cases hlt2:k<18
     · have ht:=low_bounds (x/1024) k (by omega);have hs:Hid (low (x/1024) (k+1)=low (x/1024) k+btI x (10+(k:Int))*2^k):=low_step x k;have hbt:=Zgm x (10+(k:Int)) (by omega) (by omega);have hbd:=Zen x (10+(k:Int));have hsh:=shift_bd _ k (by omega) hbd.1 hbd.2;have HY:Hid (Box4 _ (w.heap.size+1) _ _ _ (low (x/1024) k)):=hy;have HX:Hid (Box4 _ w.heap.size 0 0 0 0):=hx;obtain⟨c0,c1,c2,c3,d0,d1,d2,d3,dl⟩:=hy;clear hx;generalize low (x/1024) k=t at *;generalize btI x (10+(k:Int))=b at*
       have hw0:IntKind.i64.wrap (10+(k:Int))=10+(k:Int):=by rw[IntKind.wrap_i64];omega
       have hw1:IntKind.i64.wrap (b*2^k)=b*2^k:=by rw[IntKind.wrap_i64];omega
       have hw2:IntKind.i64.wrap (t+b*2^k)=t+b*2^k:=by rw[IntKind.wrap_i64];omega
       go_wp2
       go_region_with (go_at_call 126;refine(hbt _).mono ?_;rintro e w' ⟨rfl,rfl⟩)
       all_goals
        go_wp2;go_roundw
        (case rel=>exact⟨k+1,by omega,by go_num,(HX.out.else (by omega)).drew,by rw[hs.out];exact(HY.out.set3 _).drew,(hb.setCell (by simp) _).drew⟩)
        (case measure=>simp[intOf];omega)
     · have e:k=18:=by omega
       subst e;have hbt:=Zgm x 28 (by omega) (by omega);have hbd:=Zen x 28;have ht:=low_bounds (x/1024) 18 (by omega);have HD:Hid (low (x/1024) 18-btI x 28*262144=datI x):=dat_bits x;have HY:Hid (Box4 _ (w.heap.size+1) _ _ _ (low (x/1024) 18)):=hy;have HX:Hid (Box4 _ w.heap.size 0 0 0 0):=hx;obtain⟨c0,c1,c2,c3,d0,d1,d2,d3,dl⟩:=hy;obtain⟨a0,a1,a2,a3,f0,f1,f2,f3,fl⟩:=hx;generalize low (x/1024) 18=t at *;generalize btI x 28=b at*
       have hw1:IntKind.i64.wrap (b*262144)=b*262144:=by rw[IntKind.wrap_i64];omega
       have hw2:IntKind.i64.wrap (t-b*262144)=t-b*262144:=by rw[IntKind.wrap_i64];omega
       go_wp2
       go_region_with (go_at_call 126;refine(hbt _).mono ?_;rintro e w' ⟨rfl,rfl⟩)
       all_goals
        go_wp2;exact bodyPost_ret (v:=.agg #[Vi (labI x),Vi (srcI x),Vi (staI x),Vi (t-b*262144)]) (by simp[results,results91,go_sem,a0,a1,a2,a3]) rfl ⟨by unfold readV;rw[←HD.out],by repeat (first|exact hb|apply Below.drew|(refine Below.setCell ?_ (by simp) _))⟩
end Go.Proofs.YtnfdfiholcelaaaGreatDoor
namespace Go.Proofs.YtnfdfiholcelaaaGreatDoor
open Go.RowKit Go.Sort Go.Shelf Plain Go.Maps Tryz
def rdOf(x:Int):Option Rd:=if ones x 32%2=1 then some (labI x,srcI x,staI x,datI x) else none
theorem rdOf_yes{x:Int}(h:ones x 32%2=1):rdOf x=some (labI x,srcI x,staI x,datI x):=if_pos h
theorem rdOf_no{x:Int}(h:¬ones x 32%2=1):rdOf x=none:=if_neg h
def Wds(w:World)(a:Option Addr)(l:List Int):Prop:=(l=[]∨∃b off,a=some (Ad b off)∧∀k,k<l.length→w.cell? (Ad b (off+k))=some (.int .u32 (at0 l k)))∧∀x∈l,0≤x∧x<4294967296
theorem Wds.later{w w':World}{a:Option Addr}{l:List Int}(h:Wds w a l)(hb:Below w.heap.size w w'):Wds w' a l:=by
 refine⟨?_,h.2⟩
 rcases h.1 with h|⟨b,off,h,hc⟩
 · exact .inl h
 · exact .inr ⟨b,off,h,fun k hk=>cell_later hb (hc k hk)⟩
theorem Wds.at{w:World}{a:Option Addr}{l:List Int}(h:Wds w a l){k:Nat}(hk:k<l.length):∃b off,a=some (Ad b off)∧w.cell? (Ad b (off+k))=some (.int .u32 (at0 l k))∧0≤at0 l k∧at0 l k<4294967296:=by
 have hm:at0 l k∈l:=by simp[at0,hk]
 rcases h.1 with rfl|⟨b,off,h',hc⟩
 · simp at hk
 · exact⟨b,off,h',hc k hk,h.2 _ hm⟩
theorem by_any(a b c d:Int)(w:World):Calls prog 149 #[.agg #[Vi a,Vi b,Vi c,Vi d]] w fun e w'=>e=.returned (.agg #[Vi a,Vi b])∧Below w.heap.size w w':=by
 go_enter func149,ntmps149
 go_wp2;exact bodyPost_ret (v:=.agg #[Vi a,Vi b]) (by simp[results,results149,go_sem]) rfl ⟨rfl,Zac (Zaa _ _) (Zaa _ _)⟩
theorem Zeb{H:Type}{P:Program}{k:TypeId}{R:Value→Option (DataW H×List MemPlace)}{w w':World}{b n:Nat}{D:DataW H}(h:w.ownsMap P k R b n D)(hb:Below w.heap.size w w'):w'.ownsMap P k R b n D:=by
 have hl:=h.lt;obtain⟨es,clock,hb',F,hs,hD⟩:=h;exact⟨es,clock,(hb.block b hl).trans hb',F,hs,hD⟩
theorem vals_gives{H:Type}(n:Nat)(hn:1≤n)(Bm b nn:Nat)(D0:DataW H)(ls:List Rd)(hrep:RepM D0 ls)(hwf:∀z∈ls,wfR z)(hso:ls.Pairwise (fun x y=>rlt x y=true))(w:World)
 (hm:w.cell? (Ad Bm 0)=some (.map (some b))) (hown:w.ownsMap prog 241 (rdRead (H:=H)) b nn D0):
 SeqGives Fence.wide n prog 204 #[.pointer (some (Ad Bm 0))] rdV (fun ss=>ss.Perm ls) ls.length w:=fun l J W hW hJ hY h0=>
 vals1_in n hn l Bm b nn D0 ls hrep hwf hso J hY W hJ (cell_later hW hm) (Zeb hown hW) h0
theorem values_any(mb:Option Nat)(w:World):Calls prog 151 #[.map mb] w fun e w'=>e=.returned (.func (.func 204) #[] #[.pointer (some (Ad w.heap.size 0))])∧w'=w.alloc (.cells #[.map mb] 238):=by
 go_enter func151,ntmps151
 go_wp2;go_ret;exact⟨rfl,rfl⟩
theorem Zhl{w w':World}{r V o:Nat}{x:Value}(h:w.grownBy w' (some r))(hc:w.cell? (Ad V o)=some x)(hV:V≠r):w'.cell? (Ad V o)=some x:=
 (World.cell?_of_block (w:=w) (h.block V (World.block_lt_of_cell? w ⟨V,o,none⟩ hc) (fun e=>hV (by cases e;rfl)))).trans hc
theorem lab_bd(x:Int):0≤labI x∧labI x≤255:=by
 have:=lab_turn x;have:=turn_le x 8 (by omega)
 omega
theorem rd_wf(x:Int):(Lit.int .i64 (labI x)).wf=true∧(Lit.int .i64 (srcI x)).wf=true:=by
 have:=lab_bd x;exact⟨WalkArith.wf_i64 (by omega),WalkArith.wf_i64 (by unfold srcI;omega)⟩
theorem gat_wf(ws:List Int):∀z∈gat rdOf ws,wfR z:=fun z hz=>by
 obtain⟨x,_,hx⟩:=gat_mem rdOf ws z hz
 unfold rdOf at hx
 split at hx
 · cases hx;exact rd_wf x
 · cases hx
theorem gather_step{H:Type}{ws:List Int}{k:Nat}{x A B C E:Int}{D:DataW H}(hsn:ws.take (k+1)=ws.take k++[x])(hr:rdOf x=some (A,B,C,E))(hwf:(Lit.int .i64 A).wf=true∧(Lit.int .i64 B).wf=true)(hp:RepM D (gat rdOf (ws.take k))):
 bads rdOf (ws.take (k+1))=bads rdOf (ws.take k)∧RepM (D.put (klI A B) (datR (A,B,C,E))) (gat rdOf (ws.take (k+1))):=by
 have h:=hp.put (r:=(A,B,C,E)) (gat_wf _) hwf (gat_sorted _ _);rw[hsn,Zjd,Zga,hr];exact⟨by simp,h⟩
theorem gather_any(a:Option Addr)(cap:Nat)(ws:List Int)(hl:ws.length≤64)(w:World)(hw:Wds w a ws):
 Calls prog 100 #[.slice a ws.length cap] w fun e w'=>(∃v,e=.returned (.tuple #[v,Vi (bads rdOf ws),.nilIface])∧OwnL w.heap.size v (gat rdOf ws) w')∧Below w.heap.size w w':=by
 have HW:=Zab hw;clear hw
 have h64:¬(64:Int)<(ws.length:Int):=by omega
 have hmm:=@run_makeMap prog
 go_enter func100,ntmps100
 go_wp2
 go_loopw [6,18] (fun p i wr=>∃(k:Nat) (D:DataW Unit),k≤ws.length∧p=Vi (bads rdOf (ws.take k))∧i=Vi k∧wr.ownsMap prog 241 (rdRead (H:=Unit)) w.heap.size k D∧RepM D (gat rdOf (ws.take k))∧Below w.heap.size w wr) (fun _ i _=>ws.length-(intOf i).toNat)
 case atStart=>
  exact⟨0,.map [],Nat.zero_le _,rfl,rfl,World.ownsMap_made _ _ _ _,RepM.nil,(Below.refl _ _).alloc (Nat.le_refl _) _⟩
 case round=>
  obtain⟨k,D,hk,rfl,rfl,hown,hrep,hb⟩:=hrel;have hbd:=bads_le rdOf (ws.take k);have hb64:bads rdOf (ws.take k)≤64:=Nat.le_trans hbd (Nat.le_trans (List.length_take_le k ws) (by omega));clear hbd
  by_cases hlt:k<ws.length
  · obtain⟨b,off,rfl,hcell,hx0,hx1⟩:=(HW.out.later hb).at hlt;have hsn:Hid (ws.take (k+1)=ws.take k++[at0 ws k]):=Zhs ws 0 k hlt;have HE:=Zab hown;have HP:=Zab hrep;have HB:=Zab hb;clear hown hrep hb
    by_cases ho:ones (at0 ws k) 32%2=1
    · have hu:=unpack_yes _ hx0 hx1 ho;have HR:=Zab (rdOf_yes ho);have HWF:=Zab (rd_wf (at0 ws k))
      unfold readV at hu
      generalize labI (at0 ws k)=A at *;generalize srcI (at0 ws k)=B at *;generalize staI (at0 ws k)=C at *;generalize datI (at0 ws k)=E at *;generalize at0 ws k=x at *;clear ho;have HST:=Zab (gather_step hsn.out HR.out HWF.out HP.out)
      go_upto_region 11 with(go_at_call 148;refine Sb (hu _) fun w1 hb1=>?_);have HE2:=Zab ((Zeb HE.out hb1).alloc (.cells #[Vi A,Vi B,Vi C,Vi E] 161));have HB2:=Zab (Zac (Zac HB.out hb1) (Zaa w1 (.cells #[Vi A,Vi B,Vi C,Vi E] 161)));have HC:=Zab (Box4.new w1 A B C E 161);generalize w1.alloc (.cells #[Vi A,Vi B,Vi C,Vi E] 161)=w2 at *;generalize w1.heap.size=V at *;clear hb1;obtain⟨q0,q1,q2,q3,_⟩:=HC.out;have HV:Hid (V≠w.heap.size):=Zab (fun e=>by subst e;obtain⟨es,clock,hh,_⟩:=HE2.out;simp[World.cell?,hh] at q0);have Z:Hid (w2.cell? (Ad V 0)=some (Vi A)∧w2.cell? (Ad V 1)=some (Vi B)∧w2.cell? (Ad V 2)=some (Vi C)∧w2.cell? (Ad V 3)=some (Vi E)):=Zab ⟨q0,q1,q2,q3⟩
      go_region_held3 (fun u=>(u.cell? (Ad V 0)=some (Vi A)∧u.cell? (Ad V 1)=some (Vi B)∧u.cell? (Ad V 2)=some (Vi C)∧u.cell? (Ad V 3)=some (Vi E)))
       (first
        |(with_reducible assumption)
        |exact Z.out
        |(with_reducible exact KS4.out))
       (first
        |(go_at_call 149;refine Sb (by_any A B C E _) fun w3 hb3=>?_;have HC3:=Zab (HC.out.drew.later hb3);have KS3:(w3.cell? (Ad V 0)=some (.int .i64 A)∧w3.cell? (Ad V 1)=some (.int .i64 B)∧w3.cell? (Ad V 2)=some (.int .i64 C)∧w3.cell? (Ad V 3)=some (.int .i64 E)):=⟨HC3.out.1,HC3.out.2.1,HC3.out.2.2.1,HC3.out.2.2.2.1⟩;have HB3:=Zab (Zac (Zac HB2.out (Below.refl _ _).drew) hb3);obtain⟨w4,hrun,own4,hg4⟩:=(Zeb HE2.out.drew hb3).update Zik map_under (by unfold maxLen;omega) (keyOf_who HWF.out.1 HWF.out.2) (val:=.agg #[.int .i64 A,.int .i64 B,.int .i64 C,.int .i64 E]) (rdRead_mk (A,B,C,E));have HE4:=Zab own4;have HG4:=Zab hg4;have KS4:Hid (w4.cell? (Ad V 0)=some (.int .i64 A)∧w4.cell? (Ad V 1)=some (.int .i64 B)∧w4.cell? (Ad V 2)=some (.int .i64 C)∧w4.cell? (Ad V 3)=some (.int .i64 E)):=Zab ⟨Zhl hg4 KS3.1 HV.out,Zhl hg4 KS3.2.1 HV.out,Zhl hg4 KS3.2.2.1 HV.out,Zhl hg4 KS3.2.2.2 HV.out⟩;clear own4 hg4 hb3))
      all_goals
       go_wp2_with fail;go_roundw
       (case rel=>exact⟨k+1,D.put (klI A B) (datR (A,B,C,E)),by omega,by rw[HST.out.1],by go_num,HE4.out,HST.out.2,HB3.out.grown HG4.out HB3.out.size (fun j e=>by cases e;exact Nat.le_refl _)⟩)
       (case measure=>simp[intOf];omega)
    · have hu:=unpack_no _ hx0 hx1 ho;have HR:=Zab (rdOf_no ho);have HN:Hid ((bads rdOf (ws.take (k+1)):Int)=(bads rdOf (ws.take k):Int)+1):=Zab (by rw[hsn.out,Zjd,HR.out];simp);rw[Zbg (by decide)] at hu;generalize at0 ws k=x at *;clear ho
      go_wp2_with (go_at_call 148;refine Sb (hu _) fun w1 hb1=>?_);go_roundw
      case rel=>exact⟨k+1,D,by omega,by rw[HN.out],by go_num,((Zeb HE.out hb1).alloc _).mono (Nat.le_succ _),by rw[hsn.out,Zga,HR.out];exact HP.out,Zac (Zac HB.out hb1) (Zaa _ _)⟩
      case measure=>simp[intOf];omega
  · obtain rfl:k=ws.length:=by omega
    rw[List.take_length] at hrep;rw[List.take_length];have hsd:=gat_sorted rdOf ws;have hgl:=Zhm rdOf ws;have hwf:=gat_wf ws;have HB:=Zab hb;have hv:=values_any (some w.heap.size) wr;have HM:Hid ((wr.alloc (.cells #[.map (some w.heap.size)] 238)).cell? (Ad wr.heap.size 0)=some (.map (some w.heap.size))):=Zab (by simp[go_sem]);have hs:=sortedFunc_any 204 #[.pointer (some (Ad wr.heap.size 0))] (enters_of func204 (by kernel_rfl) rfl) (gat rdOf ws) hsd (by omega) (wr.alloc (.cells #[.map (some w.heap.size)] 238)) (vals_gives 7 (by omega) wr.heap.size w.heap.size ws.length D (gat rdOf ws) hrep hwf hsd _ HM.out (hown.alloc _));clear hsd hgl hwf hown hrep hb hb64
    go_wp2_with (first
     |(go_at_call 151;refine hv.mono ?_;rintro e w1 ⟨rfl,rfl⟩)
     |(go_at_call 150;refine hs.mono ?_;rintro e w2 ⟨v,rfl,ho,hb2⟩))
    go_ret3;refine⟨⟨v,rfl,?_⟩,Zac (Zac HB.out (Zaa _ _)) hb2⟩;exact⟨ownsRow_base_a ho.1 (by have:=HB.out.size;simp;omega),ho.2⟩
end Go.Proofs.YtnfdfiholcelaaaGreatDoor
namespace Go.Proofs.YtnfdfiholcelaaaGreatDoor
open Go.RowKit Plain Tryz
theorem OwnL.rds{B:Nat}{v:Value}{l:List Rd}{w:World}(h:OwnL B v l w):∃a cap,v=.slice a l.length cap∧Rds w a l:=by
 rcases h.1.2 with⟨rfl,hz⟩|⟨g,cap,cur,rfl,_,hb,r1,r2,r3,r4⟩
 · have hl:l=[]:=h.2.1 rfl;subst hl;exact⟨none,0,rfl,.inl rfl⟩
 · refine⟨_,cap,rfl,.inr ⟨g,rfl,fun k hk=>?_⟩⟩
   have hc:∀j,j<4→w.cell? (Ad g (k*4+j))=(encR (rat l k))[j]?:=fun j hj=>by
    have ht:k*4+j<l.length*4:=by omega
    have h1:(cur.toList.take (l.length*4))[k*4+j]?=(encL l)[k*4+j]?:=by rw[r4]
    rw[List.getElem?_take_of_lt ht,encL_get l _ ht,show(k*4+j)/4=k by omega,show(k*4+j)%4=j by omega,Array.getElem?_toList] at h1;simp only[World.cell?,hb];simp only[Option.isSome_none,Bool.false_eq_true,if_false];exact h1
   exact⟨hc 0 (by omega),hc 1 (by omega),hc 2 (by omega),hc 3 (by omega)⟩
def fndV(a b:Int)(l:List Rd):Value:=match fnd a b l with
 |some r=>.tuple #[rdV r,.bool true]
 |none=>.tuple #[.agg #[Vi 0,Vi 0,Vi 0,Vi 0],.bool false]
theorem fndV_yes{a b:Int}{l:List Rd}{k:Nat}(hk:k<l.length)(hf:fndV a b l=fndV a b (l.drop k))(h1:(rat l k).1=a)(h2:(rat l k).2.1=b):fndV a b l=.tuple #[rdV (rat l k),.bool true]:=by
 rw[hf]
 unfold fndV
 rw[fnd_step a b l k hk,if_pos ⟨h1,h2⟩]
theorem fndV_no{a b:Int}{l:List Rd}{k:Nat}(hk:k<l.length)(hf:fndV a b l=fndV a b (l.drop k))(h:¬((rat l k).1=a∧(rat l k).2.1=b)):fndV a b l=fndV a b (l.drop (k+1)):=by
 rw[hf]
 unfold fndV
 rw[fnd_step a b l k hk,if_neg h]
theorem fndV_end{a b:Int}{l:List Rd}(hf:fndV a b l=fndV a b (l.drop l.length)):fndV a b l=.tuple #[.agg #[Vi 0,Vi 0,Vi 0,Vi 0],.bool false]:=by
 rw[hf,List.drop_length]
 rfl
theorem found_any(a:Option Addr)(cap:Nat)(l:List Rd)(x y:Int)(hl:l.length≤1000)(w:World)(hr:Rds w a l):
 Calls prog 93 #[.slice a l.length cap,Vi x,Vi y] w fun e w'=>e=.returned (fndV x y l)∧Below w.heap.size w w':=by
 have HR:=Zab (hr.later (Zaa w (.cells #[Vi 0,Vi 0,Vi 0,Vi 0] 161)));have HB:=Zab (Zaa w (.cells #[Vi 0,Vi 0,Vi 0,Vi 0] 161));have HX:=Zab (Box4.new w 0 0 0 0 161);clear hr
 go_enter func93,ntmps93
 go_wp2;generalize w.alloc (.cells #[Vi 0,Vi 0,Vi 0,Vi 0] 161)=w1 at *;obtain⟨B,hB⟩:∃B,B=w.heap.size:=⟨_,rfl⟩;rw[←hB] at HX;rw[←hB];have HBB:=Zab hB;clear hB
 go_loop [8] (fun i=>∃k:Nat,k≤l.length∧i=Vi k∧Hid (fndV x y l=fndV x y (l.drop k))) (fun i=>l.length-(intOf i).toNat)
 case atStart=>exact⟨0,Nat.zero_le _,rfl,by show fndV x y l=fndV x y (l.drop 0);rw[List.drop_zero]⟩
 case round=>
  obtain⟨k,hk,rfl,hf⟩:=hrel;obtain⟨x0,x1,x2,x3,f0,f1,f2,f3,_⟩:=HX.out
  by_cases hlt:k<l.length
  · obtain⟨g,rfl,c0,c1,c2,c3⟩:=HR.out.at hlt
    by_cases h1:(rat l k).1=x
    · by_cases h2:(rat l k).2.1=y
      · have HS:=Zab (fndV_yes hlt hf.out h1 h2)
        unfold rdV at HS
        generalize (rat l k).1=r1 at *;generalize (rat l k).2.1=r2 at *;generalize (rat l k).2.2.1=r3 at *;generalize (rat l k).2.2.2=r4 at*
        have e1:(r1==x)=true:=by simpa using h1
        have e2:(r2==y)=true:=by simpa using h2
        clear hf h1 h2;go_wp2;refine bodyPost_ret (v:=.tuple #[.agg #[Vi r1,Vi r2,Vi r3,Vi r4],.bool true]) (by simp[results,results93,go_sem, *]) rfl ⟨by rw[HS.out],?_⟩;exact Zef HB.out (by rw[HBB.out];exact Nat.le_refl _) _ _ _ _
      · have HS:=Zab (fndV_no hlt hf.out (fun h=>h2 h.2));generalize (rat l k).1=r1 at *;generalize (rat l k).2.1=r2 at*
        have e1:(r1==x)=true:=by simpa using h1
        have e2:(r2==y)=false:=by simpa using h2
        clear hf h1 h2;go_wp2
        go_round
        case rel=>exact⟨k+1,by omega,by go_num,HS⟩
        case measure=>simp[intOf];omega
    · have HS:=Zab (fndV_no hlt hf.out (fun h=>h1 h.1));generalize (rat l k).1=r1 at*
      have e1:(r1==x)=false:=by simpa using h1
      clear hf h1;go_wp2
      go_round
      case rel=>exact⟨k+1,by omega,by go_num,HS⟩
      case measure=>simp[intOf];omega
  · obtain rfl:k=l.length:=by omega
    have HS:=Zab (fndV_end hf.out);clear hf;go_wp2;refine bodyPost_ret (v:=.tuple #[.agg #[Vi 0,Vi 0,Vi 0,Vi 0],.bool false]) (by simp[results,results93,go_sem, *]) rfl ⟨by rw[HS.out],?_⟩;exact Zef HB.out (by rw[HBB.out];exact Nat.le_refl _) _ _ _ _
theorem info_int:∃i,prog.info? 3=some i∧i.size=1:=by
 have h:(prog.info? 3).map (·.size)=some 1:=by kernel_rfl
 cases hq:prog.info? 3 with
 |none=>rw[hq] at h;cases h
 |some i=>rw[hq] at h;exact⟨i,rfl,by simpa using h⟩
theorem eq_who(d:Nat)(a b p q:Int)(w:World):(Op.equalIn (d+1+1) 241 (.agg #[Vi a,Vi b]) (.agg #[Vi p,Vi q])).run prog w=.ok (decide (a=p)&&decide (b=q)) w:=by
 obtain⟨i,hi,_⟩:=info_int;rw[run_equalIn_array w _ _ _ who_under hi,who_one,show List.range 2=[0,1] from rfl]
 by_cases h1:a=p
 · by_cases h2:b=q
   · simp[Op.eqItems,go_sem,h1,h2]
   · have:(b==q)=false:=by simpa using h2
     simp[Op.eqItems,go_sem,h1,h2,this]
 · have:(a==p)=false:=by simpa using h1
   simp[Op.eqItems,go_sem,h1,this]
def FindS(w u:World)(B:Nat)(a:Option Addr)(l:List Rd)(x y:Int):Prop:=
 Box4 u B 0 0 0 0∧(u.cell? (Ad (B+1) 0)=some (Vi x)∧u.cell? (Ad (B+1) 1)=some (Vi y))∧Rds u a l∧Below B w u
theorem FindS.later{w u u':World}{B:Nat}{a:Option Addr}{l:List Rd}{x y:Int}(h:FindS w u B a l x y)(hb:Below u.heap.size u u'):FindS w u' B a l x y:=
 ⟨h.1.later hb,⟨cell_later hb h.2.1.1,cell_later hb h.2.1.2⟩,h.2.2.1.later hb,h.2.2.2.trans (hb.mono (Nat.le_of_lt h.1.2.2.2.2.2.2.2.2))⟩
theorem find_any(a:Option Addr)(cap:Nat)(l:List Rd)(x y:Int)(hl:l.length≤1000)(w:World)(hr:Rds w a l):
 Calls prog 161 #[.slice a l.length cap,Vi x,Vi y] w fun e w'=>e=.returned (fndV x y l)∧Below w.heap.size w w':=by
 have hq:=eq_who;have HF:Hid (FindS w ((w.alloc (.cells #[Vi 0,Vi 0,Vi 0,Vi 0] 161)).alloc (.cells #[Vi x,Vi y] 241)) w.heap.size a l x y):=
  Zab ⟨(Box4.new w 0 0 0 0 161).later (Zaa _ _),⟨by simp[go_sem],by simp[go_sem]⟩,hr.later (Zac (Zaa _ _) (Zaa _ _)),Zac (Zaa _ _) (Zaa _ _)⟩
 clear hr
 go_enter func161,ntmps161
 go_wp2;generalize (w.alloc (.cells #[Vi 0,Vi 0,Vi 0,Vi 0] 161)).alloc (.cells #[Vi x,Vi y] 241)=w1 at *;obtain⟨B,hB⟩:∃B,B=w.heap.size:=⟨_,rfl⟩;rw[←hB] at HF;rw[←hB];have HBB:=Zab hB;clear hB
 go_loopw [16] (fun i wr=>∃k:Nat,k≤l.length∧i=Vi k∧Hid (fndV x y l=fndV x y (l.drop k))∧FindS w wr B a l x y) (fun i _=>l.length-(intOf i).toNat)
 case atStart=>exact⟨0,Nat.zero_le _,rfl,by show fndV x y l=fndV x y (l.drop 0);rw[List.drop_zero],HF.out⟩
 case round=>
  obtain⟨k,hk,rfl,hf,hS⟩:=hrel;have HS:=Zab hS;clear hS
  by_cases hlt:k<l.length
  · obtain⟨g,rfl,c0,c1,c2,c3⟩:=HS.out.2.2.1.at hlt;have HY:=Zab (fun h1 h2=>fndV_yes hlt hf.out h1 h2);have HN:=Zab (fun h=>fndV_no hlt hf.out h)
    unfold rdV at HY
    generalize (rat l k).1=r1 at *;generalize (rat l k).2.1=r2 at *;generalize (rat l k).2.2.1=r3 at *;generalize (rat l k).2.2.2=r4 at *;clear hf
    go_upto_region 5 with fail;have HS1:=Zab (HS.out.later (Zaa wr (.cells #[Vi r1,Vi r2,Vi r3,Vi r4] 161)));have HC:=Zab (Box4.new wr r1 r2 r3 r4 161);generalize wr.alloc (.cells #[Vi r1,Vi r2,Vi r3,Vi r4] 161)=w2 at *;generalize wr.heap.size=V at *;have Z:Hid (w2.cell? (Ad V 0)=some (Vi r1)∧w2.cell? (Ad V 1)=some (Vi r2)∧w2.cell? (Ad V 2)=some (Vi r3)∧w2.cell? (Ad V 3)=some (Vi r4)∧w2.cell? (Ad (B+1) 0)=some (Vi x)∧w2.cell? (Ad (B+1) 1)=some (Vi y)):=Zab ⟨HC.out.1,HC.out.2.1,HC.out.2.2.1,HC.out.2.2.2.1,HS1.out.2.1.1,HS1.out.2.1.2⟩;clear c0 c1 c2 c3
    by_cases h:r1=x∧r2=y
    · have hq1:∀d w,(Op.equalIn (d+1+1) 241 (.agg #[Vi r1,Vi r2]) (.agg #[Vi x,Vi y])).run prog w=.ok true w:=fun d w=>by rw[hq];simp[h]
      have HV:=Zab (HY.out h.1 h.2);clear HY HN h hq
      go_region_held3 (fun u=>(u.cell? (Ad V 0)=some (Vi r1)∧u.cell? (Ad V 1)=some (Vi r2)∧u.cell? (Ad V 2)=some (Vi r3)∧u.cell? (Ad V 3)=some (Vi r4)∧u.cell? (Ad (B+1) 0)=some (Vi x)∧u.cell? (Ad (B+1) 1)=some (Vi y)))
       (first
        |(with_reducible assumption)
        |exact Z.out)
       (first
        |(go_at_call 149;refine Sb (by_any r1 r2 r3 r4 _) fun w3 hb3=>?_;have HC3:=Zab (HC.out.drew.later hb3);have HS3:=Zab ((HS1.out.later (Below.refl _ _).drew).later hb3);have KS3:(w3.cell? (Ad V 0)=some (Vi r1)∧w3.cell? (Ad V 1)=some (Vi r2)∧w3.cell? (Ad V 2)=some (Vi r3)∧w3.cell? (Ad V 3)=some (Vi r4)∧w3.cell? (Ad (B+1) 0)=some (Vi x)∧w3.cell? (Ad (B+1) 1)=some (Vi y)):=⟨HC3.out.1,HC3.out.2.1,HC3.out.2.2.1,HC3.out.2.2.2.1,HS3.out.2.1.1,HS3.out.2.1.2⟩;clear hb3))
      all_goals
       obtain⟨y0,y1,y2,y3,f0,f1,f2,f3,_⟩:=HS3.out.1;obtain⟨z0,z1,z2,z3,_⟩:=HC3.out;go_wp2_with fail;refine bodyPost_ret (v:=.tuple #[.agg #[Vi r1,Vi r2,Vi r3,Vi r4],.bool true]) (by simp[results,results161,go_sem, *]) rfl ⟨by rw[HV.out],?_⟩;rw[HBB.out] at HS3⊢;exact Zef HS3.out.2.2.2 (Nat.le_refl _) _ _ _ _
    · have hq1:∀d w,(Op.equalIn (d+1+1) 241 (.agg #[Vi r1,Vi r2]) (.agg #[Vi x,Vi y])).run prog w=.ok false w:=fun d w=>by rw[hq];simp;intro h1 h2;exact h ⟨h1,h2⟩
      have HV:=Zab (HN.out h);clear HY HN h hq
      go_region_held3 (fun u=>(u.cell? (Ad V 0)=some (Vi r1)∧u.cell? (Ad V 1)=some (Vi r2)∧u.cell? (Ad V 2)=some (Vi r3)∧u.cell? (Ad V 3)=some (Vi r4)∧u.cell? (Ad (B+1) 0)=some (Vi x)∧u.cell? (Ad (B+1) 1)=some (Vi y)))
       (first
        |(with_reducible assumption)
        |exact Z.out)
       (first
        |(go_at_call 149;refine Sb (by_any r1 r2 r3 r4 _) fun w3 hb3=>?_;have HC3:=Zab (HC.out.drew.later hb3);have HS3:=Zab ((HS1.out.later (Below.refl _ _).drew).later hb3);have KS3:(w3.cell? (Ad V 0)=some (Vi r1)∧w3.cell? (Ad V 1)=some (Vi r2)∧w3.cell? (Ad V 2)=some (Vi r3)∧w3.cell? (Ad V 3)=some (Vi r4)∧w3.cell? (Ad (B+1) 0)=some (Vi x)∧w3.cell? (Ad (B+1) 1)=some (Vi y)):=⟨HC3.out.1,HC3.out.2.1,HC3.out.2.2.1,HC3.out.2.2.2.1,HS3.out.2.1.1,HS3.out.2.1.2⟩;clear hb3))
      all_goals
       go_wp2_with fail;go_roundw
       (case rel=>exact⟨k+1,by omega,by go_num,HV,HS3.out⟩)
       (case measure=>simp[intOf];omega)
  · obtain rfl:k=l.length:=by omega
    have HV:=Zab (fndV_end hf.out);obtain⟨y0,y1,y2,y3,f0,f1,f2,f3,_⟩:=HS.out.1;clear hf hq;go_wp2;refine bodyPost_ret (v:=.tuple #[.agg #[Vi 0,Vi 0,Vi 0,Vi 0],.bool false]) (by simp[results,results161,go_sem, *]) rfl ⟨by rw[HV.out],?_⟩;rw[HBB.out] at HS⊢;exact Zef HS.out.2.2.2 (Nat.le_refl _) _ _ _ _
end Go.Proofs.YtnfdfiholcelaaaGreatDoor
