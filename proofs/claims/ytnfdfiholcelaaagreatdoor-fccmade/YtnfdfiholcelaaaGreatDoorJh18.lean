
import Derived.Test.YtnfdfiholcelaaaGreatDoorJh00
import Derived.Test.YtnfdfiholcelaaaGreatDoorJh01
import Derived.Test.YtnfdfiholcelaaaGreatDoorJh08
import Derived.Test.YtnfdfiholcelaaaGreatDoorJh16
import Derived.Test.YtnfdfiholcelaaaGreatDoorJh17
set_option maxRecDepth 100000
set_option maxHeartbeats 20000000
namespace Go.Proofs.YtnfdfiholcelaaaGreatDoor
open Go.RowKit Plain Tryz
def FB(w:World)(B ca:Nat)(a:Option Addr)(T R s:Int)(l:List Sv):Prop:=(w.cell? (Ad B 0)=some (.slice a l.length ca)∧w.cell? (Ad (B+1) 0)=some (Vi T)∧w.cell? (Ad (B+1+1) 0)=some (Vi s))∧WLs w a T R l
theorem FB.later{w w':World}{B ca:Nat}{a:Option Addr}{T R s:Int}{l:List Sv}(h:FB w B ca a T R s l)(hb:Below w.heap.size w w'):FB w' B ca a T R s l:=⟨⟨cell_later hb h.1.1,cell_later hb h.1.2.1,cell_later hb h.1.2.2⟩,h.2.later hb⟩
theorem keepF{w u u':World}{B ca:Nat}{a:Option Addr}{T R s:Int}{l:List Sv}(hb:Below u.heap.size u u')(h:((u.cell? (Ad B 0)=some (.slice a l.length ca)∧u.cell? (Ad (B+1) 0)=some (Vi T)∧u.cell? (Ad (B+1+1) 0)=some (Vi s))∧WLs u a T R l)∧Below w.heap.size w u):((u'.cell? (Ad B 0)=some (.slice a l.length ca)∧u'.cell? (Ad (B+1) 0)=some (Vi T)∧u'.cell? (Ad (B+1+1) 0)=some (Vi s))∧WLs u' a T R l)∧Below w.heap.size w u':=
 ⟨⟨⟨cell_later hb h.1.1.1,cell_later hb h.1.1.2.1,cell_later hb h.1.1.2.2⟩,h.1.2.later hb⟩,Zac h.2 hb⟩
theorem tooHigh_any(T R S C s:Int)(l:List Sv)(a:Option Addr)(ca B:Nat)(i:Int)(i0:-5000≤i)(i1:i≤5000)(t0:-1000≤T)(t1:T≤1000)(hok:AllOk T R S C l)(hl:l.length≤9)(w:World)(hw:FB w B ca a T R s l):
 Calls prog 247 #[Vi i,.pointer (some (Ad B 0)),.pointer (some (Ad (B+1) 0)),.pointer (some (Ad (B+1+1) 0))] w fun e w'=>e=.returned (.bool (decide (s<tot T R l (i-T))))∧Below w.heap.size w w':=by
 have htg:∀u,WLs u a T R l→Calls prog 221 #[.slice a l.length ca,Vi (i-T)] u fun e w'=>e=.returned (Vi (tot T R l (i-T)))∧Below u.heap.size u w':=fun u hu=>Zep T R S C l (i-T) a ca hok hl u hu;have v1:=Wr (i-T);have htg':∀u,(((u.cell? (Ad B 0)=some (.slice a l.length ca)∧u.cell? (Ad (B+1) 0)=some (Vi T)∧u.cell? (Ad (B+1+1) 0)=some (Vi s))∧WLs u a T R l)∧Below w.heap.size w u)→Calls prog 221 #[.slice a l.length ca,Vi (i-T)] u fun e w'=>e=.returned (Vi (tot T R l (i-T)))∧Below u.heap.size u w':=fun u hu=>htg u hu.1.2;have S0:((w.cell? (Ad B 0)=some (.slice a l.length ca)∧w.cell? (Ad (B+1) 0)=some (Vi T)∧w.cell? (Ad (B+1+1) 0)=some (Vi s))∧WLs w a T R l)∧Below w.heap.size w w:=⟨hw,Below.refl _ _⟩;have Z:=Zab S0;clear hok htg hw;generalize tot T R l (i-T)=t at*
 go_enter func247,ntmps247
 go_upto_region 1 with fail
 go_region_held3 (fun u=>((u.cell? (Ad B 0)=some (.slice a l.length ca)∧u.cell? (Ad (B+1) 0)=some (Vi T)∧u.cell? (Ad (B+1+1) 0)=some (Vi s))∧WLs u a T R l)∧Below w.heap.size w u)
  (first
   |(with_reducible assumption)
   |(with_reducible apply keepF;with_reducible assumption;with_reducible assumption)
   |(refine keepF ?_ Z.out;exact(Below.refl _ _).drew))
  (first
   |(go_at_call 221;refine Sb (htg' _ (by with_reducible assumption)) fun w' hb=>?_))
 all_goals
  rename_i hH
  have HB:=Zab hH.2;clear hH;go_wp2_with fail;go_ret;exact⟨rfl,HB.out⟩
def Found(T R s:Int)(l:List Sv)(n i j:Int):Prop:=0≤i∧i≤j∧j≤n∧(i=0∨tot T R l (i-1-T)≤s)∧(j=n∨s<tot T R l (j-T))
theorem ssearch_any(T R S C s:Int)(l:List Sv)(a:Option Addr)(ca B:Nat)(n:Int)(n0:0≤n)(n1:n≤4000)(t0:-1000≤T)(t1:T≤1000)(hok:AllOk T R S C l)(hl:l.length≤9)(w:World)(hw:FB w B ca a T R s l):
 Calls prog 246 #[Vi n,.func (.func 247) #[] #[.pointer (some (Ad B 0)),.pointer (some (Ad (B+1) 0)),.pointer (some (Ad (B+1+1) 0))]] w fun e w'=>(∃i,e=.returned (Vi i)∧Found T R s l n i i)∧Below w.heap.size w w':=by
 have HW:=Zab hw;have HOK:=Zab hok;clear hw hok
 go_enter func246,ntmps246
 go_wp2
 go_loopw [5,6] (fun x y wr=>∃i j:Int,x=Vi i∧y=Vi j∧Found T R s l n i j∧Below w.heap.size w wr) (fun x y _=>(intOf y-intOf x).toNat)
 case atStart=>exact⟨0,n,rfl,rfl,⟨by omega,n0,by omega,.inl rfl,.inl rfl⟩,Below.refl _ _⟩
 case round=>
  obtain⟨i,j,rfl,rfl,hF,hb⟩:=hrel;have HF:=Zab hF;obtain⟨i0,ij,jn,_,_⟩:=hF;have HB:=Zab hb
  by_cases hlt:i<j
  · have hcl:=fun h h0 h1 u hu=>tooHigh_any T R S C s l a ca B h h0 h1 t0 t1 HOK.out hl u hu;have HL:=Zab (HW.out.later hb);clear hb;have hm:=hcl ((i+j)/2) (by omega) (by omega) wr HL.out;clear hcl
    by_cases hq:s<tot T R l ((i+j)/2-T)
    · rw[decide_eq_true hq] at hm;have HQ:=Zab hq;clear hq
      go_wp2_with (go_at_call 247;refine hm.mono ?_;rintro e w1 ⟨rfl,hb1⟩);go_roundw
      case rel=>
       obtain⟨f0,f1,f2,f3,f4⟩:=HF.out;exact⟨i,(i+j)/2,rfl,rfl,⟨f0,by omega,by omega,f3,.inr HQ.out⟩,Zac HB.out hb1⟩
      case measure=>simp[intOf];omega
    · rw[decide_eq_false hq] at hm;have HQ:=Zab hq;clear hq
      go_wp2_with (go_at_call 247;refine hm.mono ?_;rintro e w1 ⟨rfl,hb1⟩);go_roundw
      case rel=>
       obtain⟨f0,f1,f2,f3,f4⟩:=HF.out;exact⟨(i+j)/2+1,j,rfl,rfl,⟨by omega,by omega,f2,.inr (by rw[show(i+j)/2+1-1-T=(i+j)/2-T by omega];have:=HQ.out;omega),f4⟩,Zac HB.out hb1⟩
      case measure=>simp[intOf];omega
  · have e:i=j:=by omega
    subst e;clear hb;go_wp2;go_ret;exact⟨⟨_,rfl,HF.out⟩,HB.out⟩
theorem found_lev{T R s:Int}{l:List Sv}(h0:tot T R l (-T)≤s){i:Int}(h:Found T R s l (2*T+1) i i):IsLev T R l s (i-1-T):=by
 obtain⟨f0,_,f2,f3,f4⟩:=h
 have hi:i≠0:=by
  intro e;subst e
  rcases f4 with f4|f4
  · omega
  · rw[show(0:Int)-T=-T by omega] at f4;omega
 refine⟨by omega,by omega,?_,fun hlt=>?_⟩
 · rcases f3 with f3|f3
   · exact absurd f3 hi
   · exact f3
 · rcases f4 with f4|f4
   · omega
   · rw[show i-1-T+1=i-T by omega];exact f4
theorem findLevel_any(T R S C s v:Int)(l:List Sv)(a:Option Addr)(ca:Nat)(t0:0≤T)(t1:T≤1000)(hok:AllOk T R S C l)(hl:l.length≤9)(h0:tot T R l (-T)≤s)(hv:IsLev T R l s v)(w:World)(hw:WLs w a T R l):
 Calls prog 223 #[.slice a l.length ca,Vi T,Vi s] w fun e w'=>e=.returned (Vi v)∧Below w.heap.size w w':=by
 have HF:Hid (FB (((w.alloc (.cells #[.slice a l.length ca] 313)).alloc (.cells #[Vi T] 3)).alloc (.cells #[Vi s] 3)) w.heap.size ca a T R s l):=by
  refine⟨⟨?_,?_,?_⟩,((hw.later (Zaa _ _)).later (Zaa _ _)).later (Zaa _ _)⟩<;>simp[go_sem,World.cell?_alloc_past]
 have HB:=Zab (Zac (Zac (Zaa w (.cells #[.slice a l.length ca] 313)) (Zaa _ (.cells #[Vi T] 3))) (Zaa _ (.cells #[Vi s] 3)));have hse:=fun u hu=>ssearch_any T R S C s l a ca w.heap.size (2*T+1) (by omega) (by omega) (by omega) t1 hok hl u hu;have HV:Hid (∀i,Found T R s l (2*T+1) i i→i-1-T=v):=fun i hi=>(found_lev h0 hi).unique hv;have HI:Hid (∀i,Found T R s l (2*T+1) i i→0≤i∧i≤3000):=fun i hi=>⟨hi.1,by have:=hi.2.2.1;omega⟩;clear hok h0 hv hw
 go_enter func223,ntmps223
 go_wp2_with (go_at_call 246;refine(hse _ HF.out).mono ?_;rintro e w1 ⟨⟨i,rfl,hi⟩,hb1⟩;have e1:=(FB.later HF.out hb1).1.2.1;obtain⟨g0,g1⟩:=HI.out i hi;have HE:=Zab (HV.out i hi);have HB:=Zab (Zac HB.out hb1);clear hb1 hi);go_ret;exact⟨by rw[←HE.out];rfl,HB.out⟩
def DA(w:World)(D n:Nat)(f:Nat→Int):Prop:=∀j,j<n→w.cell? (Ad D j)=some (Vi (f j))∧w.frozen? (Ad D j)=false
theorem DA.later{w w':World}{D n:Nat}{f:Nat→Int}(h:DA w D n f)(hb:Below w.heap.size w w'):DA w' D n f:=fun j hj=>
 ⟨cell_later hb (h j hj).1,(hb.frozen (p:=⟨D,j,none⟩) (World.block_lt_of_cell? w ⟨D,j,none⟩ (h j hj).1)).trans (h j hj).2⟩
def updD(f:Nat→Int)(k:Nat)(v:Int)(j:Nat):Int:=if j=k then v else f j
theorem DA.set{w:World}{D n:Nat}{f:Nat→Int}(h:DA w D n f)(k:Nat)(v:Int):DA (w.setCell (Ad D k) (Vi v)) D n (updD f k v):=fun j hj=>by
 refine⟨?_,by simpa[go_sem] using(h j hj).2⟩
 unfold updD
 by_cases e:j=k
 · subst e;rw[if_pos rfl];exact Zao (h j hj).1
 · rw[if_neg e];exact Zad (h j hj).1 (Zai (Ne.symm e))
theorem DA.new(w:World)(n:Nat)(t:TypeId):DA (w.alloc (.cells (madeCells #[Vi 0] n) t)) w.heap.size n (fun _=>0):=fun j hj=>by
 have e:(madeCells #[Vi 0] n)[j]?=some (Vi 0):=by rw[←Array.getElem?_toList,toList_madeCells_one,List.getElem?_replicate,if_pos hj]
 exact⟨by simp[go_sem,e],by simp[go_sem]⟩
theorem bset{w0 w:World}{K D k:Nat}{v:Value}(h:Below K w0 w)(hD:K≤D):Below K w0 (w.setCell (Ad D k) v):=h.setCell hD v
def mixD(T R:Int)(l:List Sv)(v s:Int)(k j:Nat):Int:=if j<k then dlI T R l v s j else 0
theorem Zez(T R:Int)(l:List Sv)(v s:Int)(k:Nat):mixD T R l v s (k+1)=updD (mixD T R l v s k) k (dlI T R l v s k):=by
 funext j;simp only[mixD,updD];by_cases h1:j=k
 · subst h1;simp
 · by_cases h2:j<k
   · rw[if_pos (by omega),if_neg h1,if_pos h2]
   · rw[if_neg (by omega),if_neg h1,if_neg h2]
theorem updD_twice{f g:Nat→Int}{k:Nat}{a b:Int}(h:updD f k a=g):updD f k b=updD g k b:=by
 subst h;funext j;simp only[updD];split<;>rfl
theorem keepD{w u u':World}{D k n:Nat}{t:Int}{f:Nat→Int}(hb:Below u.heap.size u u')(h:u.cell? (Ad D k)=some (Vi t)∧DA u D n f∧Below w.heap.size w u):u'.cell? (Ad D k)=some (Vi t)∧DA u' D n f∧Below w.heap.size w u':=
 ⟨cell_later hb h.1,h.2.1.later hb,Zac h.2.2 hb⟩
theorem make_ints(n:Nat)(hn:n≤9)(w:World):(Instr.makeSlice 22 (Vi (n:Int)) (Vi (n:Int))).run prog w=.ok (.slice (some (Ad w.heap.size 0)) n n) (w.alloc (.cells (madeCells #[Vi 0] n) 3)):=by
 obtain⟨i0,hi,hz0,hz1,hz2⟩:=info_parts infoInt;have h:=run_make (P:=prog) (w:=w) 22 3 i0 (Vi 0) underlying22 hi hz0 .i64 .i64 (n:Int) (n:Int) (by omega) (by omega) (by rw[hz2];omega) (by omega);rw[hz1,Int.toNat_natCast,Nat.mul_one] at h;exact h
theorem dl_ils{w:World}{D n:Nat}{T R:Int}{l:List Sv}{v s:Int}(hn:n=l.length)(h:DA w D n (mixD T R l v s n)):ILs w (some (Ad D 0)) (dlU T R l v s l.length):=by
 subst hn
 right
 refine⟨D,0,rfl,fun k hk=>?_⟩;rw[Zcn] at hk;rw[Nat.zero_add,(h k hk).1];have e:mixD T R l v s l.length k=dlI T R l v s k:=if_pos hk
 have g:∀n k,k<n→(dlU T R l v s n).getD k 0=dlI T R l v s k:=by
  intro n
  induction n with
  |zero=>intro k h;omega
  |succ n ih=>
   intro k h;rw[dlU,List.getD_eq_getElem?_getD]
   by_cases e:k=n
   · subst e;rw[List.getElem?_append_right (by rw[Zcn];omega),Zcn];simp
   · rw[List.getElem?_append_left (by rw[Zcn];omega),←List.getD_eq_getElem?_getD];exact ih k (by omega)
 rw[e,g _ k hk]
theorem deal_at(T R S C v sm:Int)(l:List Sv)(a:Option Addr)(ca:Nat)(v0:-2000≤v)(v1:v≤2000)(m0:-20000≤sm)(m1:sm≤20000)(hok:AllOk T R S C l)(hl:l.length≤9)(w:World)(hw:WLs w a T R l):
 Calls prog 222 #[.slice a l.length ca,Vi v,Vi sm] w fun e w'=>(∃g cap,e=.returned (.slice (some (Ad g 0)) l.length cap)∧w.heap.size≤g∧ILs w' (some (Ad g 0)) (dlU T R l v (sm-tot T R l v) l.length))∧Below w.heap.size w w':=by
 have HW:=Zab hw;have HOK:=Zab hok;have htg:=Zep T R S C l v a ca hok hl w hw;have htb:=tot_bd hok hl v;have hmk:=make_ints l.length hl;have hme:=Zih;have hml:=lost_method;obtain⟨s,HSE⟩:∃s,Hid (sm-tot T R l v=s):=⟨_,rfl⟩
 have s0:-30000≤s∧s≤30000:=by have:=HSE.out;omega
 clear hw hok
 go_enter func222,ntmps222
 go_wp2_with (go_at_call 221;refine htg.mono ?_;rintro e w0 ⟨rfl,hb0⟩);have HD:=Zab (DA.new w0 l.length 3);have HB:=Zab (Zac hb0 (Zaa w0 (.cells (madeCells #[Vi 0] l.length) 3)));have hDW:=hb0.size;generalize w0.alloc (.cells (madeCells #[Vi 0] l.length) 3)=w3 at *;generalize w0.heap.size=D at *;clear hb0 htg hmk;rw[HSE.out]
 go_loopw [7,21] (fun x i wr=>∃k:Nat,k≤l.length∧i=Vi k∧x=Vi (lfU T R l v s k)∧DA wr D l.length (mixD T R l v s k)∧Below w.heap.size w wr) (fun _ i _=>l.length-(intOf i).toNat)
 case atStart=>exact⟨0,Nat.zero_le _,rfl,rfl,HD.out,HB.out⟩
 case round=>
  clear HD HB;obtain⟨k,hk,rfl,rfl,hD,hb⟩:=hrel
  by_cases hlt:k<l.length
  · obtain⟨bb,off,rfl,hc⟩:=(HW.out.later hb).at hlt;have HD:=Zab hD;have HB:=Zab hb;have hlb:=lfU_bd T R l v s k;have htb1:=tk_bd HOK.out hlt v;have htb2:=tk_bd HOK.out hlt (v+1);have HS:=Zab (show lfU T R l v s (k+1)=if 0<lfU T R l v s k∧tk T R (svAt l k) v<tk T R (svAt l k) (v+1) then lfU T R l v s k-1 else lfU T R l v s k from rfl);have HI:=Zab (show dlI T R l v s k=if 0<lfU T R l v s k∧tk T R (svAt l k) v<tk T R (svAt l k) (v+1) then tk T R (svAt l k) v+1 else tk T R (svAt l k) v from rfl);have htk:∀u,tk T R (svAt l k) u=Zal u (loR T R (svAt l k).1 (svAt l k).2.2) (hiR T R (svAt l k).1 (svAt l k).2.2):=fun _=>rfl
    have j0:(0:Int)≤(k:Int):=by omega
    have j1:(k:Int)<(l.length:Int):=by omega
    clear hD hb htb;generalize lfU T R l v s k=x at*
    cases ho:(svAt l k).2.2
    · have h1:=Zgb (loR T R (svAt l k).1 (svAt l k).2.2) (hiR T R (svAt l k).1 (svAt l k).2.2) v;have h2:=Zgb (loR T R (svAt l k).1 (svAt l k).2.2) (hiR T R (svAt l k).1 (svAt l k).2.2) (v+1);rw[←htk] at h1 h2
      unfold tv at hc
      rw[if_neg (by simp[ho])] at hc;clear htk ho;generalize tk T R (svAt l k) v=t at *;generalize tk T R (svAt l k) (v+1)=t2 at *;generalize loR T R (svAt l k).1 (svAt l k).2.2=lo at *;generalize hiR T R (svAt l k).1 (svAt l k).2.2=hi at*
      go_upto_region 7 with(go_at_call 323;refine Sb (h1 _) fun w1 hb1=>?_;have HD:=Zab (HD.out.later hb1);have HB:=Zab (Zac HB.out hb1);have c0:=(HD.out k hlt).1;have c1:=(HD.out k hlt).2;clear hb1);have HD:=Zab (HD.out.set k t);have HB:=Zab (bset (k:=k) (v:=Vi t) HB.out hDW);generalize w1.setCell (Ad D k) (Vi t)=w2 at *;clear c0 c1;obtain⟨f,HFE⟩:∃f,Hid (updD (mixD T R l v s k) k t=f):=⟨_,rfl⟩;rw[HFE.out] at HD;have c0:=(HD.out k hlt).1;have c1:=(HD.out k hlt).2
      have HFK:Hid (f k=t):=by show f k=t;rw[←HFE.out];exact if_pos rfl
      rw[HFK.out] at c0
      by_cases hp:0<x
      · have S0:w2.cell? (Ad D k)=some (Vi t)∧DA w2 D l.length f∧Below w.heap.size w w2:=⟨c0,HD.out,HB.out⟩;have Z:=Zab S0;have v1:=Wr (v+1)
        by_cases hq:t<t2
        · rw[if_pos ⟨hp,hq⟩] at HS HI
          go_region_held3 (fun u=>u.cell? (Ad D k)=some (Vi t)∧DA u D l.length f∧Below w.heap.size w u)
           (first
            |(with_reducible assumption)
            |(with_reducible apply keepD;with_reducible assumption;with_reducible assumption)
            |(refine keepD ?_ Z.out;exact(Below.refl _ _).drew))
           (first
            |(go_at_call 323;refine Sb (h2 _) fun w' hb=>?_))
          all_goals
           rename_i hH
           have HD2:=Zab hH.2.1;have HB2:=Zab hH.2.2;have d0:=hH.1;have d1:=(hH.2.1 k hlt).2;clear hH c0 c1;go_wp2_with fail;go_roundw
           (case rel=>exact⟨k+1,by omega,by go_num,by rw[HS.out],by rw[Zez,HI.out,updD_twice HFE.out];exact HD2.out.set k (t+1),bset HB2.out hDW⟩)
           (case measure=>simp[intOf];omega)
        · rw[if_neg (fun h=>hq h.2)] at HS HI
          go_region_held3 (fun u=>u.cell? (Ad D k)=some (Vi t)∧DA u D l.length f∧Below w.heap.size w u)
           (first
            |(with_reducible assumption)
            |(with_reducible apply keepD;with_reducible assumption;with_reducible assumption)
            |(refine keepD ?_ Z.out;exact(Below.refl _ _).drew))
           (first
            |(go_at_call 323;refine Sb (h2 _) fun w' hb=>?_))
          all_goals
           rename_i hH
           have HD2:=Zab hH.2.1;have HB2:=Zab hH.2.2;clear hH c0 c1;go_wp2_with fail;go_roundw
           (case rel=>exact⟨k+1,by omega,by go_num,by rw[HS.out],by rw[Zez,HI.out,HFE.out];exact HD2.out,HB2.out⟩)
           (case measure=>simp[intOf];omega)
      · have hp':decide (0<x)=false:=by simpa using hp
        rw[if_neg (fun h=>hp h.1)] at HS HI;go_quiet (fail);go_wp2;go_roundw
        case rel=>exact⟨k+1,by omega,by go_num,by rw[HS.out],by rw[Zez,HI.out,HFE.out];exact HD.out.later (below_drewN (Below.refl _ _) _),Zac HB.out (below_drewN (Below.refl _ _) _)⟩
        case measure=>simp[intOf];omega
    · have h1:=Zfu v;have h2:=Zfu (v+1);rw[←tk_lost (T:=T) (R:=R) (v:=v) ho] at h1;rw[←tk_lost (T:=T) (R:=R) (v:=v+1) ho] at h2
      unfold tv at hc
      rw[if_pos ho] at hc;clear htk ho;generalize tk T R (svAt l k) v=t at *;generalize tk T R (svAt l k) (v+1)=t2 at*
      go_upto_region 7 with(go_at_call 322;refine Sb (h1 _) fun w1 hb1=>?_;have HD:=Zab (HD.out.later hb1);have HB:=Zab (Zac HB.out hb1);have c0:=(HD.out k hlt).1;have c1:=(HD.out k hlt).2;clear hb1);have HD:=Zab (HD.out.set k t);have HB:=Zab (bset (k:=k) (v:=Vi t) HB.out hDW);generalize w1.setCell (Ad D k) (Vi t)=w2 at *;clear c0 c1;obtain⟨f,HFE⟩:∃f,Hid (updD (mixD T R l v s k) k t=f):=⟨_,rfl⟩;rw[HFE.out] at HD;have c0:=(HD.out k hlt).1;have c1:=(HD.out k hlt).2
      have HFK:Hid (f k=t):=by show f k=t;rw[←HFE.out];exact if_pos rfl
      rw[HFK.out] at c0
      by_cases hp:0<x
      · have S0:w2.cell? (Ad D k)=some (Vi t)∧DA w2 D l.length f∧Below w.heap.size w w2:=⟨c0,HD.out,HB.out⟩;have Z:=Zab S0;have v1:=Wr (v+1)
        by_cases hq:t<t2
        · rw[if_pos ⟨hp,hq⟩] at HS HI
          go_region_held3 (fun u=>u.cell? (Ad D k)=some (Vi t)∧DA u D l.length f∧Below w.heap.size w u)
           (first
            |(with_reducible assumption)
            |(with_reducible apply keepD;with_reducible assumption;with_reducible assumption)
            |(refine keepD ?_ Z.out;exact(Below.refl _ _).drew))
           (first
            |(go_at_call 322;refine Sb (h2 _) fun w' hb=>?_))
          all_goals
           rename_i hH
           have HD2:=Zab hH.2.1;have HB2:=Zab hH.2.2;have d0:=hH.1;have d1:=(hH.2.1 k hlt).2;clear hH c0 c1;go_wp2_with fail;go_roundw
           (case rel=>exact⟨k+1,by omega,by go_num,by rw[HS.out],by rw[Zez,HI.out,updD_twice HFE.out];exact HD2.out.set k (t+1),bset HB2.out hDW⟩)
           (case measure=>simp[intOf];omega)
        · rw[if_neg (fun h=>hq h.2)] at HS HI
          go_region_held3 (fun u=>u.cell? (Ad D k)=some (Vi t)∧DA u D l.length f∧Below w.heap.size w u)
           (first
            |(with_reducible assumption)
            |(with_reducible apply keepD;with_reducible assumption;with_reducible assumption)
            |(refine keepD ?_ Z.out;exact(Below.refl _ _).drew))
           (first
            |(go_at_call 322;refine Sb (h2 _) fun w' hb=>?_))
          all_goals
           rename_i hH
           have HD2:=Zab hH.2.1;have HB2:=Zab hH.2.2;clear hH c0 c1;go_wp2_with fail;go_roundw
           (case rel=>exact⟨k+1,by omega,by go_num,by rw[HS.out],by rw[Zez,HI.out,HFE.out];exact HD2.out,HB2.out⟩)
           (case measure=>simp[intOf];omega)
      · have hp':decide (0<x)=false:=by simpa using hp
        rw[if_neg (fun h=>hp h.1)] at HS HI;go_quiet (fail);go_wp2;go_roundw
        case rel=>exact⟨k+1,by omega,by go_num,by rw[HS.out],by rw[Zez,HI.out,HFE.out];exact HD.out.later (below_drewN (Below.refl _ _) _),Zac HB.out (below_drewN (Below.refl _ _) _)⟩
        case measure=>simp[intOf];omega
  · have e:k=l.length:=by omega
    have HL:=Zab (dl_ils e (by subst e;exact hD));subst e;clear hD;go_wp2;go_ret;exact⟨⟨_,_,rfl,hDW,by rw[HSE.out];exact HL.out⟩,hb⟩
theorem keepS{w u u':World}{x:Option Addr}{T R:Int}{l:List Sv}(hb:Below u.heap.size u u')(h:u.cell? (Ad w.heap.size 0)=some (Vi T)∧WLs u x T R l∧Below w.heap.size w u):u'.cell? (Ad w.heap.size 0)=some (Vi T)∧WLs u' x T R l∧Below w.heap.size w u':=⟨cell_later hb h.1,h.2.1.later hb,Zac h.2.2 hb⟩
theorem spread_at(T R S C sum v:Int)(l:List Sv)(a:Option Addr)(ca:Nat)(hok:AllOk T R S C l)(h1:1≤l.length)(h4:l.length≤4)(hv:IsLev T R l (Zal sum (tot T R l (-T)) (tot T R l T)) v)(w:World)(hw:VLs w a l):
 Calls prog 171 #[.agg #[Vi T,Vi R,Vi S,Vi C],.slice a l.length ca,Vi sum] w fun e w'=>(∃g cap,e=.returned (.tuple #[.slice (some (Ad g 0)) l.length cap,.nilIface])∧w.heap.size≤g∧ILs w' (some (Ad g 0)) (dlU T R l v (Zal sum (tot T R l (-T)) (tot T R l T)-tot T R l v) l.length))∧Below w.heap.size w w':=by
 have HR:=Zab (RB.new w T R S C);have HV:=Zab hw;have HOK:=Zab hok;have ⟨t0,t1⟩:=(Zat hok.1).1;have hcr:=Zij T R S C;rw[show arE T R S C=0 by unfold arE;rw[if_pos hok.1],Zar] at hcr;have htk:=fun u hu=>takers_any T R S C l a ca l.length (Nat.le_refl _) hok.1 hok.2 (fun h=>by omega) (by omega) u hu;have b1:=tot_bd hok (by omega) (-T);have b2:=tot_bd hok (by omega) T;have HM:=Zab (Zdy T R l (show -T≤T by omega));obtain⟨s,HSE⟩:∃s,Hid (Zal sum (tot T R l (-T)) (tot T R l T)=s):=⟨_,rfl⟩;have hcl:=Zay sum (tot T R l (-T)) (tot T R l T);have bs:=Zcd (v:=sum) HM.out;rw[HSE.out] at hv hcl bs;have bv:=And.intro hv.1 hv.2.1;have hfl:=fun x c u hu=>findLevel_any T R S C s v l x c (by omega) t1 hok (by omega) bs.1 hv u hu;have hdl:=fun x c u hu=>deal_at T R S C v s l x c (by omega) (by omega) (by omega) (by omega) hok (by omega) u hu;have htA:=fun x c u hu=>Zep T R S C l (-T) x c hok (by omega) u hu;have htB:=fun x c u hu=>Zep T R S C l T x c hok (by omega) u hu
 have i1:(1:Int)≤(l.length:Int):=by omega
 have i4:(l.length:Int)≤4:=by omega
 have v1:=Wr (-T);clear hw hok hv;rw[HSE.out]
 go_enter func171,ntmps171
 go_upto_region 9 with(first
  |(go_at_call 180;refine Sb (hcr _) fun w1 hb1=>?_;have HR:=Zab (HR.out.later hb1);obtain⟨q0,q1,q2,q3⟩:=HR.out.1;clear hb1)
  |(go_at_call 220;refine(htk _ (HV.out.later HR.out.2)).mono ?_;rintro e w2 ⟨(⟨_,x,cap,rfl,hws⟩|⟨hno,_⟩),hb2⟩;rotate_left;omega;have HR:=Zab (HR.out.later hb2);have HWS:=Zab hws;obtain⟨q0,q1,q2,q3⟩:=HR.out.1;clear hb2 hws))
 generalize tot T R l (-T)=tA at *;generalize tot T R l T=tB at *;have S0:w2.cell? (Ad w.heap.size 0)=some (Vi T)∧WLs w2 x T R l∧Below w.heap.size w w2:=⟨q0,HWS.out,HR.out.2⟩;have Z:=Zab S0;have htA':∀u,(u.cell? (Ad w.heap.size 0)=some (Vi T)∧WLs u x T R l∧Below w.heap.size w u)→Calls prog 221 #[.slice x l.length cap,Vi (-T)] u fun e w'=>e=.returned (Vi tA)∧Below u.heap.size u w':=fun u hu=>htA x cap u hu.2.1;have htB':∀u,(u.cell? (Ad w.heap.size 0)=some (Vi T)∧WLs u x T R l∧Below w.heap.size w u)→Calls prog 221 #[.slice x l.length cap,Vi T] u fun e w'=>e=.returned (Vi tB)∧Below u.heap.size u w':=fun u hu=>htB x cap u hu.2.1;clear htA htB
 go_cut [2] (fun c u=>c=Vi s∧(u.cell? (Ad w.heap.size 0)=some (Vi T)∧WLs u x T R l∧Below w.heap.size w u))
 case first=>
  go_region_held3 (fun u=>u.cell? (Ad w.heap.size 0)=some (Vi T)∧WLs u x T R l∧Below w.heap.size w u)
   (first
    |(with_reducible assumption)
    |(with_reducible apply keepS;with_reducible assumption;with_reducible assumption)
    |(refine keepS ?_ Z.out;exact(Below.refl _ _).drew))
   (first
    |((first|go_at_call_of 221 (Vi (-T))|go_at_call_of 221 (Value.int .i64 (-T)));refine Sb (htA' _ (by with_reducible assumption)) fun w' hb=>?_)
    |(go_at_call 221;refine Sb (htB' _ (by with_reducible assumption)) fun w' hb=>?_)
    |(go_at_call 172;refine(hcl _).mono ?_;rintro e w' ⟨rfl,rfl⟩))
  all_goals
   rename_i hH
   go_wp2_with fail
   go_meet
   (case rel=>exact⟨rfl,hH⟩)
 case rest=>
  obtain⟨rfl,hH⟩:=hcut;rename World=>wb;clear S0 Z q0 q1 q2 q3 HWS HR;have HH:=Zab hH;have p0:=hH.1;clear hH
  go_wp2_with (first
   |(go_at_call 223;refine Sb (hfl _ _ _ HH.out.2.1) fun w4 hb4=>?_;have HH:=Zab (keepS hb4 HH.out);clear hb4)
   |(go_at_call 222;refine(hdl _ _ _ HH.out.2.1).mono ?_;rintro e w5 ⟨⟨y,cy,rfl,hyg,hys⟩,hb5⟩;have HY:=Zab hys;have HYG:=Zab (Nat.le_trans HH.out.2.2.size hyg);clear hyg;have HB:=Zab (Zac HH.out.2.2 hb5);clear hb5 hys))
  go_ret2;exact⟨⟨_,_,rfl,HYG.out,HY.out⟩,HB.out⟩
theorem Zdk{w u u':World}{L H U k:Int}(hb:Below u.heap.size u u')(h:(u.cell? (Ad w.heap.size 0)=some (Vi L)∧u.cell? (Ad w.heap.size 1)=some (Vi H)∧u.cell? (Ad w.heap.size 2)=some (Vi U)∧u.cell? (Ad (w.heap.size+1+1) 0)=some (Vi k))∧Below w.heap.size w u):(u'.cell? (Ad w.heap.size 0)=some (Vi L)∧u'.cell? (Ad w.heap.size 1)=some (Vi H)∧u'.cell? (Ad w.heap.size 2)=some (Vi U)∧u'.cell? (Ad (w.heap.size+1+1) 0)=some (Vi k))∧Below w.heap.size w u':=
 ⟨⟨Zaf hb h.1.1,Zaf hb h.1.2.1,Zaf hb h.1.2.2.1,Zaf hb h.1.2.2.2⟩,Zac h.2 hb⟩
theorem keepSAs{w u:World}{L H U k:Int}{j:Nat}{x:Value}(h:(u.cell? (Ad w.heap.size 0)=some (Vi L)∧u.cell? (Ad w.heap.size 1)=some (Vi H)∧u.cell? (Ad w.heap.size 2)=some (Vi U)∧u.cell? (Ad (w.heap.size+1+1) 0)=some (Vi k))∧Below w.heap.size w u):((u.setCell (Ad (w.heap.size+1) j) x).cell? (Ad w.heap.size 0)=some (Vi L)∧(u.setCell (Ad (w.heap.size+1) j) x).cell? (Ad w.heap.size 1)=some (Vi H)∧(u.setCell (Ad (w.heap.size+1) j) x).cell? (Ad w.heap.size 2)=some (Vi U)∧(u.setCell (Ad (w.heap.size+1) j) x).cell? (Ad (w.heap.size+1+1) 0)=some (Vi k))∧Below w.heap.size w (u.setCell (Ad (w.heap.size+1) j) x):=
 ⟨⟨Zah (by omega) h.1.1,Zah (by omega) h.1.2.1,Zah (by omega) h.1.2.2.1,Zah (by omega) h.1.2.2.2⟩,h.2.setCell (by simp) _⟩
theorem keepSE{w u u':World}{L H U B M:Int}{a z:Option Addr}{la lz ca cz:Nat}{A D W:Int}(hb:Below u.heap.size u u')(h:(u.cell? (Ad w.heap.size 0)=some (Vi L)∧u.cell? (Ad w.heap.size 1)=some (Vi H)∧u.cell? (Ad w.heap.size 2)=some (Vi U)∧u.cell? (Ad w.heap.size 3)=some (Vi B)∧u.cell? (Ad w.heap.size 4)=some (Vi M)∧u.cell? (Ad w.heap.size 5)=some (.slice a la ca)∧u.cell? (Ad w.heap.size 6)=some (.slice z lz cz))∧(u.cell? (Ad (w.heap.size+1) 0)=some (Vi A)∧u.cell? (Ad (w.heap.size+1) 1)=some (Vi D)∧u.cell? (Ad (w.heap.size+1) 2)=some (Vi W))∧Below w.heap.size w u):(u'.cell? (Ad w.heap.size 0)=some (Vi L)∧u'.cell? (Ad w.heap.size 1)=some (Vi H)∧u'.cell? (Ad w.heap.size 2)=some (Vi U)∧u'.cell? (Ad w.heap.size 3)=some (Vi B)∧u'.cell? (Ad w.heap.size 4)=some (Vi M)∧u'.cell? (Ad w.heap.size 5)=some (.slice a la ca)∧u'.cell? (Ad w.heap.size 6)=some (.slice z lz cz))∧(u'.cell? (Ad (w.heap.size+1) 0)=some (Vi A)∧u'.cell? (Ad (w.heap.size+1) 1)=some (Vi D)∧u'.cell? (Ad (w.heap.size+1) 2)=some (Vi W))∧Below w.heap.size w u':=
 ⟨⟨Zaf hb h.1.1,Zaf hb h.1.2.1,Zaf hb h.1.2.2.1,Zaf hb h.1.2.2.2.1,Zaf hb h.1.2.2.2.2.1,Zaf hb h.1.2.2.2.2.2.1,Zaf hb h.1.2.2.2.2.2.2⟩,⟨Zaf hb h.2.1.1,Zaf hb h.2.1.2.1,Zaf hb h.2.1.2.2⟩,Zac h.2.2 hb⟩
theorem keepSEs{w u:World}{L H U B M:Int}{a z:Option Addr}{la lz ca cz:Nat}{A D W:Int}{j:Nat}{x:Value}(h:(u.cell? (Ad w.heap.size 0)=some (Vi L)∧u.cell? (Ad w.heap.size 1)=some (Vi H)∧u.cell? (Ad w.heap.size 2)=some (Vi U)∧u.cell? (Ad w.heap.size 3)=some (Vi B)∧u.cell? (Ad w.heap.size 4)=some (Vi M)∧u.cell? (Ad w.heap.size 5)=some (.slice a la ca)∧u.cell? (Ad w.heap.size 6)=some (.slice z lz cz))∧(u.cell? (Ad (w.heap.size+1) 0)=some (Vi A)∧u.cell? (Ad (w.heap.size+1) 1)=some (Vi D)∧u.cell? (Ad (w.heap.size+1) 2)=some (Vi W))∧Below w.heap.size w u):((u.setCell (Ad (w.heap.size+1+1+1) j) x).cell? (Ad w.heap.size 0)=some (Vi L)∧(u.setCell (Ad (w.heap.size+1+1+1) j) x).cell? (Ad w.heap.size 1)=some (Vi H)∧(u.setCell (Ad (w.heap.size+1+1+1) j) x).cell? (Ad w.heap.size 2)=some (Vi U)∧(u.setCell (Ad (w.heap.size+1+1+1) j) x).cell? (Ad w.heap.size 3)=some (Vi B)∧(u.setCell (Ad (w.heap.size+1+1+1) j) x).cell? (Ad w.heap.size 4)=some (Vi M)∧(u.setCell (Ad (w.heap.size+1+1+1) j) x).cell? (Ad w.heap.size 5)=some (.slice a la ca)∧(u.setCell (Ad (w.heap.size+1+1+1) j) x).cell? (Ad w.heap.size 6)=some (.slice z lz cz))∧((u.setCell (Ad (w.heap.size+1+1+1) j) x).cell? (Ad (w.heap.size+1) 0)=some (Vi A)∧(u.setCell (Ad (w.heap.size+1+1+1) j) x).cell? (Ad (w.heap.size+1) 1)=some (Vi D)∧(u.setCell (Ad (w.heap.size+1+1+1) j) x).cell? (Ad (w.heap.size+1) 2)=some (Vi W))∧Below w.heap.size w (u.setCell (Ad (w.heap.size+1+1+1) j) x):=by
 have n0:w.heap.size+1+1+1≠w.heap.size:=by omega
 have n1:w.heap.size+1+1+1≠w.heap.size+1:=by omega
 exact⟨⟨Zah n0 h.1.1,Zah n0 h.1.2.1,Zah n0 h.1.2.2.1,Zah n0 h.1.2.2.2.1,Zah n0 h.1.2.2.2.2.1,Zah n0 h.1.2.2.2.2.2.1,Zah n0 h.1.2.2.2.2.2.2⟩,⟨Zah n1 h.2.1.1,Zah n1 h.2.1.2.1,Zah n1 h.2.1.2.2⟩,h.2.2.setCell (by simp;omega) _⟩
theorem room_zero{u u':World}{Q:Nat}{c0 c1 c2:Value}(hb:Below u.drew.heap.size u.drew u')(p0:u.cell? (Ad Q 0)=some c0)(p1:u.cell? (Ad Q 1)=some c1)(p2:u.cell? (Ad Q 2)=some c2)(f0:u.frozen? (Ad Q 0)=false)(f1:u.frozen? (Ad Q 1)=false)(f2:u.frozen? (Ad Q 2)=false):
 u'.cell? (Ad Q 0)=some c0∧u'.cell? (Ad Q 1)=some c1∧u'.cell? (Ad Q 2)=some c2∧u'.frozen? (Ad Q 0)=false∧u'.frozen? (Ad Q 1)=false∧u'.frozen? (Ad Q 2)=false:=
 ⟨Zaf hb p0,Zaf hb p1,Zaf hb p2,Zck hb p0 f0,Zck hb p1 f1,Zck hb p2 f2⟩
theorem room_full{u u':World}{Q:Nat}{c0 c1 c2 x y z:Value}(hb:Below (((u.setCell (Ad Q 0) x).setCell (Ad Q 1) y).setCell (Ad Q 2) z).drew.heap.size (((u.setCell (Ad Q 0) x).setCell (Ad Q 1) y).setCell (Ad Q 2) z).drew u')(p0:u.cell? (Ad Q 0)=some c0)(p1:u.cell? (Ad Q 1)=some c1)(p2:u.cell? (Ad Q 2)=some c2):
 u'.cell? (Ad Q 0)=some x∧u'.cell? (Ad Q 1)=some y∧u'.cell? (Ad Q 2)=some z:=
 ⟨Zaf hb (Zcg (by decide) (Zcg (by decide) (Zfc p0))),Zaf hb (Zcg (by decide) (Zfc (Zcg (by decide) p1))),Zaf hb (Zfc (Zcg (by decide) (Zcg (by decide) p2)))⟩
theorem steer_ok(L H U B M:Int)(a z:Option Addr)(ca cz:Nat)(al zl:List Int)(A D W k p v n q:Int)(hca:al.length≤ca)(h0:hoE L H U B M al zl A D W k n q=0)(w:World)(ha:Lst w a al)(hz:Lst w z zl):
 Calls prog 217 #[.agg #[Vi L,Vi H,Vi U,Vi B,Vi M,.slice a al.length ca,.slice z zl.length cz],.agg #[Vi A,Vi D,Vi W],.agg #[Vi k,Vi p,Vi v,Vi n,Vi q]] w fun e w'=>e=.returned (.tuple #[Vi (wtI L H U M al zl A D W k p v n q),.agg #[Vi (a2I L H U A W k p n),Vi (d2I L H U M al zl A D W k p v n q),Vi n],.nilIface])∧Below w.heap.size w w':=by
 obtain⟨e1,e2,e3⟩:=Zec h0;obtain⟨e4,e5,e6,_⟩:=Zda e1;obtain⟨⟨l0,l1⟩,⟨u0,u1⟩,⟨t0,t1⟩,⟨b0,b1⟩,m0,m1⟩:=Zdb e4;obtain⟨⟨a0,a1⟩,⟨d0,d1⟩,_,_⟩:=Zhg e2;obtain⟨⟨k0,k1⟩,_,q0',q1'⟩:=asB_true e3;obtain⟨ba,oa,bz,oz,rfl,rfl,hl⟩:=hline_lies e6 ha hz;have HX:=Zab (HW.new w L H U B M (some (Ad ba oa)) (some (Ad bz oz)) al.length zl.length ca cz A D W k p v n q);have hlk:=fun u (h:Below w.heap.size w u)=>look_ok ba oa ca bz oz cz al zl v u hca (hl.later h);have hhu:=holdHun_any k U k0 k1 t0 (by omega);have hub:=hunI_bd k0 k1 t0 (show U≤4000 by omega);clear h0 e1 e2 e3 e4 e6 ha hz hl
 unfold wtI d2I ppI a2I a1I
 generalize Zfw al zl v=g at *;generalize hunI k U=hu at *;obtain⟨hu0,hu1⟩:=hub
 by_cases hW:n=W
 case' pos=>
  obtain⟨x1,rfl⟩:∃x1,x1=A:=⟨_,rfl⟩;obtain⟨y,rfl⟩:∃y,y=D:=⟨_,rfl⟩;rw[if_pos hW,if_pos hW]
  have hne:(W != n)=false:=by simp[hW]
  clear hW;have hc2:=Zay (x1+hu) L H;have x2b:=Zch (x1+hu) e5;generalize Zal (x1+hu) L H=x2 at *;have hpl:=holdPull_any x2 p g (by omega) (by omega);have ppb:=Zhi g x2 p;generalize Zfq g x2 p=pp at *;obtain⟨pp0,pp1⟩:=ppb;have hm2:=Zgz L H U B M (some (Ad ba oa)) (some (Ad bz oz)) al.length zl.length ca cz (pp+y) m0 m1;generalize Zal (pp+y) (-M) M=wt at *;have v1:=Wr (x1+hu);have v2:=Wr (pp+y)
  go_enter func217,ntmps217
  go_upto_region 8 with(go_at_call 240;refine Sb (hlk _ HX.out.2.2.2.2.2.2) fun w1 hb=>?_;have HX:=Zab (HX.out.later hb);obtain⟨⟨q0,q1,q2,q3,q4,q5,q6⟩,⟨s0,s1,s2⟩,⟨r0,r1,r2,r3,r4⟩,⟨p0,p1,p2⟩,⟨g0,g1,g2⟩,⟨f0,f1,f2⟩,hB⟩:=HX.out;clear hB hb);have HX2:=Zab (HX.out.setW n);clear HX
 case' neg=>
  rw[if_neg hW,if_neg hW]
  have hne:(W != n)=true:=by simpa using fun h=>hW h.symm
  clear hW;have hc1:=Zay p L H;have x1b:=Zch p e5;generalize Zal p L H=x1 at *;have hc2:=Zay (x1+hu) L H;have x2b:=Zch (x1+hu) e5;generalize Zal (x1+hu) L H=x2 at *;have hpl:=holdPull_any x2 p g (by omega) (by omega);have ppb:=Zhi g x2 p;generalize Zfq g x2 p=pp at *;obtain⟨pp0,pp1⟩:=ppb;have hm1:=Zgz L H U B M (some (Ad ba oa)) (some (Ad bz oz)) al.length zl.length ca cz (q-pp) m0 m1;have yb:=Zch (q-pp) (lo:=-M) (hi:=M) (by omega);generalize Zal (q-pp) (-M) M=y at *;have hm2:=Zgz L H U B M (some (Ad ba oa)) (some (Ad bz oz)) al.length zl.length ca cz (pp+y) m0 m1;generalize Zal (pp+y) (-M) M=wt at *;have v1:=Wr (x1+hu);have v2:=Wr (pp+y)
  go_enter func217,ntmps217
  go_upto_region 8 with(first
   |(go_at_call 240;refine Sb (hlk _ HX.out.2.2.2.2.2.2) fun w1 hb=>?_;have HX:=Zab (HX.out.later hb);obtain⟨⟨q0,q1,q2,q3,q4,q5,q6⟩,⟨s0,s1,s2⟩,⟨r0,r1,r2,r3,r4⟩,⟨p0,p1,p2⟩,⟨g0,g1,g2⟩,⟨f0,f1,f2⟩,hB⟩:=HX.out;clear hB hb)
   |(go_at_call 172;refine Sm (hc1 _) ?_))
  have HX2:=Zab ((HX.out.setW n).setA x1);clear HX
 all_goals
  generalize hw2:World.setCell _ _ (Vi _)=w2 at *;clear hw2;clear q0 q1 q2 q3 q4 q5 q6 s0 s1 s2 r0 r1 r2 r3 r4 p0 p1 p2 g0 g1 g2 f0 f1 f2;obtain⟨⟨q0,q1,q2,q3,q4,q5,q6⟩,⟨s0,s1,s2⟩,⟨r0,r1,r2,r3,r4⟩,⟨p0,p1,p2⟩,⟨g0,g1,g2⟩,⟨f0,f1,f2⟩,hB⟩:=HX2.out;have Z:=Zab (show(w2.cell? (Ad w.heap.size 0)=some (Vi L)∧w2.cell? (Ad w.heap.size 1)=some (Vi H)∧w2.cell? (Ad w.heap.size 2)=some (Vi U)∧w2.cell? (Ad (w.heap.size+1+1) 0)=some (Vi k))∧Below w.heap.size w w2 from⟨⟨q0,q1,q2,r0⟩,hB⟩);clear hB;apply htwice
  · intro hk;refine wp_region_held_drew (S:=fun u=>(u.cell? (Ad w.heap.size 0)=some (Vi L)∧u.cell? (Ad w.heap.size 1)=some (Vi H)∧u.cell? (Ad w.heap.size 2)=some (Vi U)∧u.cell? (Ad (w.heap.size+1+1) 0)=some (Vi k))∧Below w.heap.size w u) (by kernel_rfl) (Zdk (Below.refl _ _).drew Z.out) (fun hHeld=>?_);refine Tp 0 (by assumption) ?_;(try simp only[Act.put]);refine Tp 2 (by assumption) ?_;(try simp only[Act.put]);refine Tp 3 (by assumption) ?_;(try simp only[Act.put]);refine Tp 4 (by assumption) ?_;(try simp only[Act.put]);refine Tp 5 (by assumption) ?_;(try simp only[Act.put]);refine Tp 8 (by assumption) ?_;(try simp only[Act.put]);refine Tp 9 (by assumption) ?_;(try simp only[Act.put]);refine Tp 10 (by assumption) ?_;(try simp only[Act.put]);refine Tp 11 (by assumption) ?_;(try simp only[Act.put]);refine Tp 12 (by assumption) ?_;(try simp only[Act.put]);refine Tp 13 (by assumption) ?_;(try simp only[Act.put]);refine Rb 1 6 (fun K hK=>?_) (fun K hK=>?_)
    · go_simp;refine hK.out _ _ (Zdk (Below.refl _ _).drew Z.out) (fun hHeld=>?_);clear hK K;(try simp only[Act.put]);refine Ra 6 (fun K hK=>?_);go_simp;refine Sm (hhu _) ?_;go_wp2_with fail;refine hK.out _ _ (Zdk (Below.refl _ _).drew Z.out) (fun hHeld=>?_);clear hK K;(try simp only[Act.put]);refine Tp 7 (by assumption) ?_;(try simp only[Act.put]);refine Ra 14 (fun K hK=>?_);go_simp;refine Sm (hc2 _) ?_;go_wp2_with fail;refine hK.out _ _ (Zdk (Below.refl _ _).drew Z.out) (fun hHeld=>?_);clear hK K;(try simp only[Act.put]);refine Tp 15 (by assumption) ?_;(try simp only[Act.put]);refine Ra 16 (fun K hK=>?_);go_simp;refine hK.out _ _ (keepSAs (Zdk (Below.refl _ _).drew Z.out)) (fun hHeld=>?_);clear hK K;(try simp only[Act.put]);refine wpAnyH_done (by kernel_rfl) ?_ _;exact hk
    · go_simp;refine Sm (hhu _) ?_;go_wp2_with fail;refine hK.out _ _ (Zdk (Below.refl _ _).drew Z.out) (fun hHeld=>?_);clear hK K;(try simp only[Act.put]);refine Ra 1 (fun K hK=>?_);go_simp;refine hK.out _ _ (Zdk (Below.refl _ _).drew Z.out) (fun hHeld=>?_);clear hK K;(try simp only[Act.put]);refine Tp 7 (by assumption) ?_;(try simp only[Act.put]);refine Ra 14 (fun K hK=>?_);go_simp;refine Sm (hc2 _) ?_;go_wp2_with fail;refine hK.out _ _ (Zdk (Below.refl _ _).drew Z.out) (fun hHeld=>?_);clear hK K;(try simp only[Act.put]);refine Tp 15 (by assumption) ?_;(try simp only[Act.put]);refine Ra 16 (fun K hK=>?_);go_simp;refine hK.out _ _ (keepSAs (Zdk (Below.refl _ _).drew Z.out)) (fun hHeld=>?_);clear hK K;(try simp only[Act.put]);refine wpAnyH_done (by kernel_rfl) ?_ _;exact hk
  have HX3:=Zab ((HX2.out.setA x2).later (Below.refl _ _).drew);clear HX2 Z;generalize hw3:World.drew (World.setCell _ _ (Vi x2))=w3 at *;clear hw3;clear q0 q1 q2 q3 q4 q5 q6 s0 s1 s2 r0 r1 r2 r3 r4 p0 p1 p2 g0 g1 g2 f0 f1 f2;obtain⟨⟨q0,q1,q2,q3,q4,q5,q6⟩,⟨s0,s1,s2⟩,⟨r0,r1,r2,r3,r4⟩,⟨p0,p1,p2⟩,⟨g0,g1,g2⟩,⟨f0,f1,f2⟩,hB⟩:=HX3.out;clear hB
  first
   |(have hz:(W != n)=false:=hne;clear hz;go_upto_region 12 with(first|(go_at_call 225;refine Sb (hpl _) fun w6 hb=>?_;have HX3:=Zab (HX3.out.later hb);obtain⟨⟨q0,q1,q2,q3,q4,q5,q6⟩,⟨s0,s1,s2⟩,⟨r0,r1,r2,r3,r4⟩,⟨p0,p1,p2⟩,⟨g0,g1,g2⟩,⟨f0,f1,f2⟩,hB⟩:=HX3.out;clear hB hb));have HX4:=HX3;clear HX3;obtain⟨⟨q0,q1,q2,q3,q4,q5,q6⟩,⟨s0,s1,s2⟩,⟨r0,r1,r2,r3,r4⟩,⟨p0,p1,p2⟩,⟨g0,g1,g2⟩,⟨f0,f1,f2⟩,hB⟩:=HX4.out)
   |(go_upto_region 12 with(first|(go_at_call 225;refine Sb (hpl _) fun w4 hb=>?_;have HX3:=Zab (HX3.out.later hb);obtain⟨⟨q0,q1,q2,q3,q4,q5,q6⟩,⟨s0,s1,s2⟩,⟨r0,r1,r2,r3,r4⟩,⟨p0,p1,p2⟩,⟨g0,g1,g2⟩,⟨f0,f1,f2⟩,hB⟩:=HX3.out;clear hB hb)|(go_at_call 224;refine Sb (hm1 _) fun w5 hb=>?_;have HX3:=Zab (HX3.out.later hb);obtain⟨⟨q0,q1,q2,q3,q4,q5,q6⟩,⟨s0,s1,s2⟩,⟨r0,r1,r2,r3,r4⟩,⟨p0,p1,p2⟩,⟨g0,g1,g2⟩,⟨f0,f1,f2⟩,hB⟩:=HX3.out;clear hB hb));have HX4:=Zab (HX3.out.setD y);clear HX3;generalize hw5:World.setCell _ _ (Vi y)=w6 at *;clear hw5;clear q0 q1 q2 q3 q4 q5 q6 s0 s1 s2 r0 r1 r2 r3 r4 p0 p1 p2 g0 g1 g2 f0 f1 f2;obtain⟨⟨q0,q1,q2,q3,q4,q5,q6⟩,⟨s0,s1,s2⟩,⟨r0,r1,r2,r3,r4⟩,⟨p0,p1,p2⟩,⟨g0,g1,g2⟩,⟨f0,f1,f2⟩,hB⟩:=HX4.out)
  have Z:=Zab (show(w6.cell? (Ad w.heap.size 0)=some (Vi L)∧w6.cell? (Ad w.heap.size 1)=some (Vi H)∧w6.cell? (Ad w.heap.size 2)=some (Vi U)∧w6.cell? (Ad w.heap.size 3)=some (Vi B)∧w6.cell? (Ad w.heap.size 4)=some (Vi M)∧w6.cell? (Ad w.heap.size 5)=some (.slice (some (Ad ba oa)) al.length ca)∧w6.cell? (Ad w.heap.size 6)=some (.slice (some (Ad bz oz)) zl.length cz))∧(w6.cell? (Ad (w.heap.size+1) 0)=some (Vi x2)∧w6.cell? (Ad (w.heap.size+1) 1)=some (Vi y)∧w6.cell? (Ad (w.heap.size+1) 2)=some (Vi n))∧Below w.heap.size w w6 from⟨⟨q0,q1,q2,q3,q4,q5,q6⟩,⟨s0,s1,s2⟩,hB⟩);clear hB q0 q1 q2 q3 q4 q5 q6 s0 s1 s2 r0 r1 r2 r3 r4 g0 g1 g2
  go_region_held3 (fun u=>(u.cell? (Ad w.heap.size 0)=some (Vi L)∧u.cell? (Ad w.heap.size 1)=some (Vi H)∧u.cell? (Ad w.heap.size 2)=some (Vi U)∧u.cell? (Ad w.heap.size 3)=some (Vi B)∧u.cell? (Ad w.heap.size 4)=some (Vi M)∧u.cell? (Ad w.heap.size 5)=some (.slice (some (Ad ba oa)) al.length ca)∧u.cell? (Ad w.heap.size 6)=some (.slice (some (Ad bz oz)) zl.length cz))∧(u.cell? (Ad (w.heap.size+1) 0)=some (Vi x2)∧u.cell? (Ad (w.heap.size+1) 1)=some (Vi y)∧u.cell? (Ad (w.heap.size+1) 2)=some (Vi n))∧Below w.heap.size w u)
   (first
    |(with_reducible assumption)
    |(with_reducible apply keepSE;with_reducible assumption;with_reducible assumption)
    |((repeat (with_reducible first|exact Z.out|assumption|refine keepSE (Below.refl _ _).drew ?_|refine keepSEs ?_));done))
   (first
    |(go_at_call 224;refine Sb (hm2 _) fun w' hb=>?_;first|(obtain⟨y0,y1,y2,k0,k1,k2⟩:=room_zero hb p0 p1 p2 f0 f1 f2)|(obtain⟨y0,y1,y2⟩:=room_full hb p0 p1 p2)))
  all_goals
   rename_i hH
   have HB:=Zab hH.2.2;clear hH;go_wp2_with fail;refine bodyPost_ret (v:=.tuple #[Vi wt,.agg #[Vi x2,Vi y,Vi n],.nilIface]) ?_ rfl ⟨rfl,HB.out⟩
   simp[results,results217,go_sem,y0,y1,y2]
end Go.Proofs.YtnfdfiholcelaaaGreatDoor
