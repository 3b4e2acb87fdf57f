
import Derived.Test.YtnfdfiholcelaaaGreatDoorJh00
set_option maxRecDepth 100000
set_option maxHeartbeats 20000000
namespace Go.Proofs.YtnfdfiholcelaaaGreatDoor
open Go.RowKit Plain Tryz
def B2(w:World)(B:Nat)(a b:Value):Prop:=w.cell? (Ad B 0)=some a∧w.cell? (Ad B 1)=some b
def B3(w:World)(B:Nat)(a b c:Value):Prop:=w.cell? (Ad B 0)=some a∧w.cell? (Ad B 1)=some b∧w.cell? (Ad B 2)=some c
def B4(w:World)(B:Nat)(a b c d:Value):Prop:=w.cell? (Ad B 0)=some a∧w.cell? (Ad B 1)=some b∧w.cell? (Ad B 2)=some c∧w.cell? (Ad B 3)=some d
theorem B2.later{w w':World}{B:Nat}{a b:Value}(h:B2 w B a b)(hb:Below w.heap.size w w'):B2 w' B a b:=⟨cell_later hb h.1,cell_later hb h.2⟩
theorem B3.later{w w':World}{B:Nat}{a b c:Value}(h:B3 w B a b c)(hb:Below w.heap.size w w'):B3 w' B a b c:=⟨cell_later hb h.1,cell_later hb h.2.1,cell_later hb h.2.2⟩
theorem B4.later{w w':World}{B:Nat}{a b c d:Value}(h:B4 w B a b c d)(hb:Below w.heap.size w w'):B4 w' B a b c d:=⟨cell_later hb h.1,cell_later hb h.2.1,cell_later hb h.2.2.1,cell_later hb h.2.2.2⟩
theorem B2.new(w:World)(a b:Value)(t:TypeId):B2 (w.alloc (.cells #[a,b] t)) w.heap.size a b:=by refine⟨?_,?_⟩<;>simp[go_sem]
theorem B3.new(w:World)(a b c:Value)(t:TypeId):B3 (w.alloc (.cells #[a,b,c] t)) w.heap.size a b c:=by refine⟨?_,?_,?_⟩<;>simp[go_sem]
theorem B4.new(w:World)(a b c d:Value)(t:TypeId):B4 (w.alloc (.cells #[a,b,c,d] t)) w.heap.size a b c d:=by refine⟨?_,?_,?_,?_⟩<;>simp[go_sem]
theorem size_alloc(w:World)(o:Obj):(w.alloc o).heap.size=w.heap.size+1:=by simp[go_sem]
def RS(w0 w:World)(T R S C i b:Int)(o:Bool):Prop:=
 B4 w w0.heap.size (Vi T) (Vi R) (Vi S) (Vi C)∧B3 w (w0.heap.size+1) (Vi i) (Vi b) (.bool o)∧Below w0.heap.size w0 w
theorem RS.later{w0 w w':World}{T R S C i b:Int}{o:Bool}(h:RS w0 w T R S C i b o)(hb:Below w.heap.size w w'):RS w0 w' T R S C i b o:=⟨h.1.later hb,h.2.1.later hb,Zac h.2.2 hb⟩
theorem RS.new(w:World)(T R S C i b:Int)(o:Bool):RS w ((w.alloc (.cells #[Vi T,Vi R,Vi S,Vi C] 113)).alloc (.cells #[Vi i,Vi b,.bool o] 116)) T R S C i b o:=by
 refine⟨(B4.new w _ _ _ _ _).later (Zaa _ _),?_,Zac (Zaa _ _) (Zaa _ _)⟩;rw[←size_alloc w (.cells #[Vi T,Vi R,Vi S,Vi C] 113)];exact B3.new _ _ _ _ _
theorem Zcw(x lo hi:Int)(w:World):
 Calls prog 76 #[Vi x,Vi lo,Vi hi] w fun e w'=>e=.returned (.bool (betw x lo hi))∧Below w.heap.size w w':=
 (Zbc x lo hi w).mono fun e w' h=>⟨h.1,by rw[h.2];exact Zaa _ _⟩
def svB(T C i b:Int)(o:Bool):Bool:=betw i (-T) T&&betw b 0 C&&(!o||i==0)&&(o||decide (b<C))
def svE(T R S C i b:Int)(o:Bool):Int:=if arE T R S C=0 then(if svB T C i b o then 0 else 3) else arE T R S C
theorem Zhf{T R S C i b:Int}{o:Bool}(h:svE T R S C i b o=0):arB T R S C=true∧svB T C i b o=true:=by
 unfold svE at h
 split at h
 · split at h
   · exact⟨Zes (by assumption),by assumption⟩
   · omega
 · exact absurd h (by assumption)
theorem svE_mk{T R S C i b:Int}{o:Bool}(h:arB T R S C=true)(h':svB T C i b o=true):svE T R S C i b o=0:=by
 unfold svE arE;rw[if_pos h,if_pos rfl,if_pos h']
theorem Zbd{T C i b:Int}{o:Bool}(h:svB T C i b o=true):(-T≤i∧i≤T)∧(0≤b∧b≤C)∧(o=true→i=0)∧(o=false→b<C):=by
 simp only[svB,Bool.and_eq_true,Bool.or_eq_true,Bool.not_eq_true',beq_iff_eq,decide_eq_true_eq] at h;obtain⟨⟨⟨h1,h2⟩,h3⟩,h4⟩:=h;refine⟨Zas h1,Zas h2,?_,?_⟩
 · rintro rfl;simpa using h3
 · rintro rfl;simpa using h4
theorem Zdr(T R S C i b:Int)(o:Bool)(w:World):
 Calls prog 159 #[.agg #[Vi T,Vi R,Vi S,Vi C],.agg #[Vi i,Vi b,.bool o]] w fun e w'=>e=.returned (errV (svE T R S C i b o))∧Below w.heap.size w w':=by
 have hr:=Zij T R S C;have HX:=Zab (RS.new w T R S C i b o)
 by_cases e1:arE T R S C=0
 · rw[e1,Zar] at hr;have f1:=Zcw i (-T) T;have f2:=Zcw b 0 C
   have hE:svE T R S C i b o=if svB T C i b o then 0 else 3:=by unfold svE;rw[if_pos e1]
   obtain⟨⟨t0,t1⟩,_,_,c0,c1⟩:=Zat (Zes e1);have hb2:betw b 0 C=true→b≤C:=fun h=>(Zas h).2
   unfold svB at hE
   clear e1;generalize betw i (-T) T=x1 at *;generalize betw b 0 C=x2 at*
   cases x1
   · have HE:Hid (svE T R S C i b o=3):=hE;clear hE hb2
     go_enter func159,ntmps159
     go_wp2_with (first
      |(go_at_call 180;refine Sb (hr _) fun w1 hb1=>?_;have HX:=Zab (HX.out.later hb1);obtain⟨⟨r0,r1,r2,r3⟩,⟨s0,s1,s2⟩,_⟩:=HX.out;clear hb1)
      |((first|go_at_call_of 76 (Vi i)|go_at_call_of 76 (Value.int .i64 i));refine Sb (f1 _) fun w2 hb2=>?_;have HX:=Zab (HX.out.later hb2);obtain⟨⟨r0,r1,r2,r3⟩,⟨s0,s1,s2⟩,_⟩:=HX.out;clear hb2))
     go_ret;exact⟨by rw[HE.out];rfl,HX.out.2.2⟩
   · cases x2
     · have HE:Hid (svE T R S C i b o=3):=hE;clear hE hb2
       go_enter func159,ntmps159
       go_wp2_with (first
        |(go_at_call 180;refine Sb (hr _) fun w1 hb1=>?_;have HX:=Zab (HX.out.later hb1);obtain⟨⟨r0,r1,r2,r3⟩,⟨s0,s1,s2⟩,_⟩:=HX.out;clear hb1)
        |((first|go_at_call_of 76 (Vi i)|go_at_call_of 76 (Value.int .i64 i));refine Sb (f1 _) fun w2 hb2=>?_;have HX:=Zab (HX.out.later hb2);obtain⟨⟨r0,r1,r2,r3⟩,⟨s0,s1,s2⟩,_⟩:=HX.out;clear hb2)
        |((first|go_at_call_of 76 (Vi b)|go_at_call_of 76 (Value.int .i64 b));refine Sb (f2 _) fun w3 hb3=>?_;have HX:=Zab (HX.out.later hb3);obtain⟨⟨r0,r1,r2,r3⟩,⟨s0,s1,s2⟩,_⟩:=HX.out;clear hb3))
       go_ret;exact⟨by rw[HE.out];rfl,HX.out.2.2⟩
     · have hbC:=hb2 rfl;clear hb2
       cases o
       · by_cases hlt:b<C
         · have HE:Hid (svE T R S C i b false=0):=by show svE T R S C i b false=0;rw[hE];simp[hlt]
           have hq:(b==C)=false:=by simp;omega
           clear hE
           go_enter func159,ntmps159
           go_wp2_with (first
            |(go_at_call 180;refine Sb (hr _) fun w1 hb1=>?_;have HX:=Zab (HX.out.later hb1);obtain⟨⟨r0,r1,r2,r3⟩,⟨s0,s1,s2⟩,_⟩:=HX.out;clear hb1)
            |((first|go_at_call_of 76 (Vi i)|go_at_call_of 76 (Value.int .i64 i));refine Sb (f1 _) fun w2 hb2=>?_;have HX:=Zab (HX.out.later hb2);obtain⟨⟨r0,r1,r2,r3⟩,⟨s0,s1,s2⟩,_⟩:=HX.out;clear hb2)
            |((first|go_at_call_of 76 (Vi b)|go_at_call_of 76 (Value.int .i64 b));refine Sb (f2 _) fun w3 hb3=>?_;have HX:=Zab (HX.out.later hb3);obtain⟨⟨r0,r1,r2,r3⟩,⟨s0,s1,s2⟩,_⟩:=HX.out;clear hb3))
           go_ret;exact⟨by rw[HE.out];rfl,HX.out.2.2⟩
         · have HE:Hid (svE T R S C i b false=3):=by show svE T R S C i b false=3;rw[hE];simp[hlt]
           have hq:(b==C)=true:=by simp;omega
           clear hE
           go_enter func159,ntmps159
           go_wp2_with (first
            |(go_at_call 180;refine Sb (hr _) fun w1 hb1=>?_;have HX:=Zab (HX.out.later hb1);obtain⟨⟨r0,r1,r2,r3⟩,⟨s0,s1,s2⟩,_⟩:=HX.out;clear hb1)
            |((first|go_at_call_of 76 (Vi i)|go_at_call_of 76 (Value.int .i64 i));refine Sb (f1 _) fun w2 hb2=>?_;have HX:=Zab (HX.out.later hb2);obtain⟨⟨r0,r1,r2,r3⟩,⟨s0,s1,s2⟩,_⟩:=HX.out;clear hb2)
            |((first|go_at_call_of 76 (Vi b)|go_at_call_of 76 (Value.int .i64 b));refine Sb (f2 _) fun w3 hb3=>?_;have HX:=Zab (HX.out.later hb3);obtain⟨⟨r0,r1,r2,r3⟩,⟨s0,s1,s2⟩,_⟩:=HX.out;clear hb3))
           go_ret;exact⟨by rw[HE.out];rfl,HX.out.2.2⟩
       · by_cases hi:i=0
         · have HE:Hid (svE T R S C i b true=0):=by show svE T R S C i b true=0;rw[hE];simp[hi]
           have hq:(i != 0)=false:=by simp[hi]
           clear hE hi
           go_enter func159,ntmps159
           go_wp2_with (first
            |(go_at_call 180;refine Sb (hr _) fun w1 hb1=>?_;have HX:=Zab (HX.out.later hb1);obtain⟨⟨r0,r1,r2,r3⟩,⟨s0,s1,s2⟩,_⟩:=HX.out;clear hb1)
            |((first|go_at_call_of 76 (Vi i)|go_at_call_of 76 (Value.int .i64 i));refine Sb (f1 _) fun w2 hb2=>?_;have HX:=Zab (HX.out.later hb2);obtain⟨⟨r0,r1,r2,r3⟩,⟨s0,s1,s2⟩,_⟩:=HX.out;clear hb2)
            |((first|go_at_call_of 76 (Vi b)|go_at_call_of 76 (Value.int .i64 b));refine Sb (f2 _) fun w3 hb3=>?_;have HX:=Zab (HX.out.later hb3);obtain⟨⟨r0,r1,r2,r3⟩,⟨s0,s1,s2⟩,_⟩:=HX.out;clear hb3))
           go_ret;exact⟨by rw[HE.out];rfl,HX.out.2.2⟩
         · have HE:Hid (svE T R S C i b true=3):=by show svE T R S C i b true=3;rw[hE];simp[hi]
           have hq:(i != 0)=true:=by simpa using hi
           clear hE hi
           go_enter func159,ntmps159
           go_wp2_with (first
            |(go_at_call 180;refine Sb (hr _) fun w1 hb1=>?_;have HX:=Zab (HX.out.later hb1);obtain⟨⟨r0,r1,r2,r3⟩,⟨s0,s1,s2⟩,_⟩:=HX.out;clear hb1)
            |((first|go_at_call_of 76 (Vi i)|go_at_call_of 76 (Value.int .i64 i));refine Sb (f1 _) fun w2 hb2=>?_;have HX:=Zab (HX.out.later hb2);obtain⟨⟨r0,r1,r2,r3⟩,⟨s0,s1,s2⟩,_⟩:=HX.out;clear hb2)
            |((first|go_at_call_of 76 (Vi b)|go_at_call_of 76 (Value.int .i64 b));refine Sb (f2 _) fun w3 hb3=>?_;have HX:=Zab (HX.out.later hb3);obtain⟨⟨r0,r1,r2,r3⟩,⟨s0,s1,s2⟩,_⟩:=HX.out;clear hb3))
           go_ret;exact⟨by rw[HE.out];rfl,HX.out.2.2⟩
 · have HE:Hid (svE T R S C i b o=1):=by show svE T R S C i b o=1;unfold svE;rw[if_neg e1,arE_ne e1]
   rw[arE_ne e1,Zbg (by decide)] at hr;clear e1
   go_enter func159,ntmps159
   go_wp2_with (first
    |(go_at_call 180;refine Sb (hr _) fun w1 hb1=>?_;have HX:=Zab (HX.out.later hb1);obtain⟨⟨r0,r1,r2,r3⟩,⟨s0,s1,s2⟩,_⟩:=HX.out;clear hb1))
   go_ret;exact⟨by rw[HE.out];rfl,HX.out.2.2⟩
theorem servoMay_any(T R S C i b:Int)(o:Bool)(w:World):
 Calls prog 45 #[.agg #[Vi T,Vi R,Vi S,Vi C],.agg #[Vi i,Vi b,.bool o]] w fun e w'=>e=.returned (Vi (svE T R S C i b o))∧Below w.heap.size w w':=by
 have hr:=Zhu T R S C;have HN:=Zab (RS.new w T R S C i b o).2.2
 by_cases e1:arE T R S C=0
 · rw[e1] at hr;have f1:=Zaj i (-T) T;have f2:=Zaj b 0 C
   have hE:svE T R S C i b o=if svB T C i b o then 0 else 3:=by unfold svE;rw[if_pos e1]
   obtain⟨⟨t0,t1⟩,_,_,c0,c1⟩:=Zat (Zes e1);have hb2:betw b 0 C=true→b≤C:=fun h=>(Zas h).2
   unfold svB at hE
   clear e1;generalize betw i (-T) T=x1 at *;generalize betw b 0 C=x2 at*
   cases x1
   · have HE:Hid (svE T R S C i b o=3):=hE;clear hE hb2
     go_enter func45,ntmps45
     go_wp2_with (first
      |(go_at_call 89;refine Sb (hr _) fun w1 hb1=>?_)
      |((first|go_at_call_of 38 (Vi i)|go_at_call_of 38 (Value.int .i64 i));refine Sm (f1 _) ?_)
      |(go_at_call 14;refine Sm (Zbo 3 _) ?_)
      |(go_at_call 13;refine Sm (Zcm _ _ _ _) ?_))
     go_ret;exact⟨by rw[HE.out];rfl,Zac (Zac HN.out hb1) (Zaa _ _)⟩
   · cases x2
     · have HE:Hid (svE T R S C i b o=3):=hE;clear hE hb2
       go_enter func45,ntmps45
       go_wp2_with (first
        |(go_at_call 89;refine Sb (hr _) fun w1 hb1=>?_)
        |((first|go_at_call_of 38 (Vi i)|go_at_call_of 38 (Value.int .i64 i));refine Sm (f1 _) ?_)
        |((first|go_at_call_of 38 (Vi b)|go_at_call_of 38 (Value.int .i64 b));refine Sm (f2 _) ?_)
        |(go_at_call 14;refine Sm (Zbo 3 _) ?_)
        |(go_at_call 13;refine Sm (Zcm _ _ _ _) ?_))
       go_ret;exact⟨by rw[HE.out];rfl,Zac (Zac HN.out hb1) (Zaa _ _)⟩
     · have hbC:=hb2 rfl;clear hb2
       cases o
       · by_cases hlt:b<C
         · have HE:Hid (svE T R S C i b false=0):=by show svE T R S C i b false=0;rw[hE];simp[hlt]
           clear hE
           go_enter func45,ntmps45
           go_wp2_with (first
            |(go_at_call 89;refine Sb (hr _) fun w1 hb1=>?_)
            |((first|go_at_call_of 38 (Vi i)|go_at_call_of 38 (Value.int .i64 i));refine Sm (f1 _) ?_)
            |((first|go_at_call_of 38 (Vi b)|go_at_call_of 38 (Value.int .i64 b));refine Sm (f2 _) ?_)
            |(go_at_call 14;refine Sm (Zbv 3 _) ?_)
            |(go_at_call 13;refine Sm (Zcm _ _ _ _) ?_))
           go_ret;exact⟨by rw[HE.out];rfl,Zac (Zac HN.out hb1) (Zaa _ _)⟩
         · have HE:Hid (svE T R S C i b false=3):=by show svE T R S C i b false=3;rw[hE];simp[hlt]
           have hd:decide (b<C)=false:=by simpa using hlt
           have hle:C≤b:=by omega
           clear hE hlt
           go_enter func45,ntmps45
           go_wp2_with (first
            |(go_at_call 89;refine Sb (hr _) fun w1 hb1=>?_)
            |((first|go_at_call_of 38 (Vi i)|go_at_call_of 38 (Value.int .i64 i));refine Sm (f1 _) ?_)
            |((first|go_at_call_of 38 (Vi b)|go_at_call_of 38 (Value.int .i64 b));refine Sm (f2 _) ?_)
            |(go_at_call 14;refine Sm (Zbo 3 _) ?_)
            |(go_at_call 13;refine Sm (Zcm _ _ _ _) ?_))
           go_ret;exact⟨by rw[HE.out];rfl,Zac (Zac HN.out hb1) (Zaa _ _)⟩
       · by_cases hi:i=0
         · have HE:Hid (svE T R S C i b true=0):=by show svE T R S C i b true=0;rw[hE];simp[hi]
           have hq:(i==0)=true:=by simp[hi]
           clear hE hi
           go_enter func45,ntmps45
           go_wp2_with (first
            |(go_at_call 89;refine Sb (hr _) fun w1 hb1=>?_)
            |((first|go_at_call_of 38 (Vi i)|go_at_call_of 38 (Value.int .i64 i));refine Sm (f1 _) ?_)
            |((first|go_at_call_of 38 (Vi b)|go_at_call_of 38 (Value.int .i64 b));refine Sm (f2 _) ?_)
            |(go_at_call 14;refine Sm (Zbv 3 _) ?_)
            |(go_at_call 13;refine Sm (Zcm _ _ _ _) ?_))
           go_ret;exact⟨by rw[HE.out];rfl,Zac (Zac HN.out hb1) (Zaa _ _)⟩
         · have HE:Hid (svE T R S C i b true=3):=by show svE T R S C i b true=3;rw[hE];simp[hi]
           have hq:(i==0)=false:=by simpa using hi
           clear hE hi
           go_enter func45,ntmps45
           go_wp2_with (first
            |(go_at_call 89;refine Sb (hr _) fun w1 hb1=>?_)
            |((first|go_at_call_of 38 (Vi i)|go_at_call_of 38 (Value.int .i64 i));refine Sm (f1 _) ?_)
            |((first|go_at_call_of 38 (Vi b)|go_at_call_of 38 (Value.int .i64 b));refine Sm (f2 _) ?_)
            |(go_at_call 14;refine Sm (Zbo 3 _) ?_)
            |(go_at_call 13;refine Sm (Zcm _ _ _ _) ?_))
           go_ret;exact⟨by rw[HE.out];rfl,Zac (Zac HN.out hb1) (Zaa _ _)⟩
 · have HE:Hid (svE T R S C i b o=1):=by show svE T R S C i b o=1;unfold svE;rw[if_neg e1,arE_ne e1]
   rw[arE_ne e1] at hr
   have f1:∀lo hi w,Calls prog 38 #[Vi i,Vi lo,Vi hi] w fun e w'=>(e=.returned (.bool true)∨e=.returned (.bool false))∧w'=w:=by
    intro lo hi w;refine(Zaj i lo hi w).mono fun e w' h=>⟨?_,h.2⟩
    rw[h.1];cases betw i lo hi<;>simp
   have f2:=Zaj b 0 C;have hwh:∀(x:Bool) w,Calls prog 14 #[.bool x,Vi 3] w fun r w'=>∃y,r=.returned (Vi y)∧w'=w:=fun x w=>(Zcr x 3 w).mono fun e w' h=>⟨_,h.1,h.2⟩;clear e1;generalize betw b 0 C=x2 at*
   cases x2<;>cases o<;>rcases Bool.eq_false_or_eq_true (i==0) with hq|hq<;>by_cases hlt:b<C
   all_goals
    go_enter func45,ntmps45
    go_wp2_with (first
     |(go_at_call 89;refine Sb (hr _) fun w1 hb1=>?_)
     |((first|go_at_call_of 38 (Vi i)|go_at_call_of 38 (Value.int .i64 i));refine(f1 _ _ _).mono ?_;rintro e w' ⟨he,hq⟩;have hq:=hq.symm;subst hq;rcases he with rfl|rfl)
     |((first|go_at_call_of 38 (Vi b)|go_at_call_of 38 (Value.int .i64 b));refine Sm (f2 _) ?_)
     |(go_at_call 14;refine(hwh _ _).mono ?_;rintro e w' ⟨y,rfl,hq⟩;have hq:=hq.symm;subst hq)
     |(go_at_call 13;refine Sm (Zcm _ _ _ _) ?_))
    all_goals
     go_ret;exact⟨by rw[HE.out];rfl,Zac (Zac HN.out hb1) (Zaa _ _)⟩
def mnA(x y:Int):Int:=min x y
def mxA(x y:Int):Int:=max x y
theorem run_minA(ts:Array TypeId)(t:TypeId)(p q:Int)(w:World):(Builtin.min_ ts t #[Vi p,Vi q]).run prog w=.ok (Vi (mnA p q)) w:=by
 unfold mnA;by_cases h:q<p
 · rw[Int.min_eq_right (by omega)];simp[Builtin.min_,Builtin.min2,h]
 · rw[Int.min_eq_left (by omega)];simp[Builtin.min_,Builtin.min2,h]
theorem run_maxA(ts:Array TypeId)(t:TypeId)(p q:Int)(w:World):(Builtin.max_ ts t #[Vi p,Vi q]).run prog w=.ok (Vi (mxA p q)) w:=by
 unfold mxA;by_cases h:p<q
 · rw[Int.max_eq_right (by omega)];simp[Builtin.max_,Builtin.max2,h]
 · rw[Int.max_eq_left (by omega)];simp[Builtin.max_,Builtin.max2,h]
def loR(T R i:Int)(o:Bool):Int:=if o then 0 else mxA (i-R) (-T)
def hiR(T R i:Int)(o:Bool):Int:=if o then 0 else mnA (i+R) T
theorem reached_any(T R S C i b:Int)(o:Bool)(hr:arB T R S C=true)(hs:svB T C i b o=true)(w:World):
 Calls prog 200 #[.agg #[Vi T,Vi R,Vi S,Vi C],.agg #[Vi i,Vi b,.bool o]] w fun e w'=>e=.returned (.agg #[Vi (loR T R i o),Vi (hiR T R i o)])∧Below w.heap.size w w':=by
 obtain⟨⟨t0,t1⟩,⟨r0,r1⟩,_,_,_⟩:=Zat hr;have i0:=(Zbd hs).1.1;have i1:=(Zbd hs).1.2;have m2:=fun ts t p q w=>run_minA ts t p q w;have x2:=fun ts t p q w=>run_maxA ts t p q w;have HN:=Zab (RS.new w T R S C i b o).2.2;clear hr hs
 unfold loR hiR
 cases o
 · simp only[Bool.false_eq_true,if_false]
   go_enter func200,ntmps200
   go_wp2;exact bodyPost_ret (v:=.agg #[Vi (mxA (i-R) (-T)),Vi (mnA (i+R) T)]) (by simp[results,results200,go_sem]) rfl ⟨rfl,Zac HN.out (Zaa _ _)⟩
 · simp only[if_true]
   go_enter func200,ntmps200
   go_wp2;exact bodyPost_ret (v:=.agg #[Vi 0,Vi 0]) (by simp[results,results200,go_sem]) rfl ⟨rfl,Zac HN.out (Zaa _ _)⟩
def FrA(w:World)(B n:Nat):Prop:=(∀j,j<n→w.frozen? (Ad B j)=false)∧B<w.heap.size
theorem FrA.later{w w':World}{B n:Nat}(h:FrA w B n)(hb:Below w.heap.size w w'):FrA w' B n:=
 ⟨fun j hj=>(hb.frozen (p:=⟨B,j,none⟩) h.2).trans (h.1 j hj),Nat.lt_of_lt_of_le h.2 hb.size⟩
theorem FrA.new{w:World}{cs:Array Value}{T:TypeId}{n:Nat}:FrA (w.alloc (.cells cs T)) w.heap.size n:=
 ⟨fun j _=>by simp[go_sem],by simp[go_sem]⟩
theorem FrA.set{w:World}{B n:Nat}{a:Addr}{v:Value}(h:FrA w B n):FrA (w.setCell a v) B n:=
 ⟨fun j hj=>by simpa[go_sem] using h.1 j hj,by simpa[go_sem] using h.2⟩
def RSP(w0 w:World)(T R S C i b:Int)(o:Bool):Prop:=RS w0 w T R S C i b o∧B2 w (w0.heap.size+1+1) (Vi 0) (Vi 0)∧FrA w (w0.heap.size+1+1) 2
theorem RSP.later{w0 w w':World}{T R S C i b:Int}{o:Bool}(h:RSP w0 w T R S C i b o)(hb:Below w.heap.size w w'):RSP w0 w' T R S C i b o:=⟨h.1.later hb,h.2.1.later hb,h.2.2.later hb⟩
theorem RSP.new(w:World)(T R S C i b:Int)(o:Bool):RSP w (((w.alloc (.cells #[Vi T,Vi R,Vi S,Vi C] 113)).alloc (.cells #[Vi i,Vi b,.bool o] 116)).alloc (.cells #[Vi 0,Vi 0] 105)) T R S C i b o:=by
 refine⟨(RS.new w T R S C i b o).later (Zaa _ _),?_,?_⟩
 · rw[←size_alloc w (.cells #[Vi T,Vi R,Vi S,Vi C] 113),←size_alloc (w.alloc (.cells #[Vi T,Vi R,Vi S,Vi C] 113)) (.cells #[Vi i,Vi b,.bool o] 116)];exact B2.new _ _ _ _
 · rw[←size_alloc w (.cells #[Vi T,Vi R,Vi S,Vi C] 113),←size_alloc (w.alloc (.cells #[Vi T,Vi R,Vi S,Vi C] 113)) (.cells #[Vi i,Vi b,.bool o] 116)];exact FrA.new
theorem reach_ok(T R S C i b:Int)(o:Bool)(h0:svE T R S C i b o=0)(w:World):
 Calls prog 245 #[.agg #[Vi T,Vi R,Vi S,Vi C],.agg #[Vi i,Vi b,.bool o]] w fun e w'=>e=.returned (.tuple #[.agg #[Vi (loR T R i o),Vi (hiR T R i o)],.nilIface])∧Below w.heap.size w w':=by
 obtain⟨hr,hs⟩:=Zhf h0;obtain⟨⟨t0,t1⟩,⟨r0,r1⟩,_,_,_⟩:=Zat hr;have i0:=(Zbd hs).1.1;have i1:=(Zbd hs).1.2;have m2:=fun ts t p q w=>run_minA ts t p q w;have x2:=fun ts t p q w=>run_maxA ts t p q w;have hck:=Zdr T R S C i b o;rw[h0,Zar] at hck;have HX:=Zab (RSP.new w T R S C i b o);clear hr hs h0
 unfold loR hiR
 cases o
 · simp only[Bool.false_eq_true,if_false]
   go_enter func245,ntmps245
   go_wp2_with (go_at_call 159;refine Sb (hck _) fun w1 hb1=>?_;have HX:=Zab (HX.out.later hb1);obtain⟨⟨⟨q0,q1,q2,q3⟩,⟨s0,s1,s2⟩,_⟩,⟨p0,p1⟩,pf,_⟩:=HX.out;have f0:=pf 0 (by omega);have f1:=pf 1 (by omega);clear hb1 pf);exact bodyPost_ret (v:=.tuple #[.agg #[Vi (mxA (i-R) (-T)),Vi (mnA (i+R) T)],.nilIface]) (by simp[results,results245,go_sem,p0,p1]) rfl ⟨rfl,(HX.out.1.2.2.setCell (by simp;omega) _).setCell (by simp;omega) _⟩
 · simp only[if_true]
   go_enter func245,ntmps245
   go_wp2_with (go_at_call 159;refine Sb (hck _) fun w1 hb1=>?_;have HX:=Zab (HX.out.later hb1);obtain⟨⟨⟨q0,q1,q2,q3⟩,⟨s0,s1,s2⟩,_⟩,⟨p0,p1⟩,pf,_⟩:=HX.out;have f0:=pf 0 (by omega);have f1:=pf 1 (by omega);clear hb1 pf);exact bodyPost_ret (v:=.tuple #[.agg #[Vi 0,Vi 0],.nilIface]) (by simp[results,results245,go_sem,p0,p1]) rfl ⟨rfl,(HX.out.1.2.2.setCell (by simp;omega) _).setCell (by simp;omega) _⟩
theorem reach_err(T R S C i b:Int)(o:Bool)(h0:svE T R S C i b o≠0)(w:World):
 Calls prog 245 #[.agg #[Vi T,Vi R,Vi S,Vi C],.agg #[Vi i,Vi b,.bool o]] w fun e w'=>e=.returned (.tuple #[.agg #[Vi 0,Vi 0],.iface 44 (Vi (svE T R S C i b o))])∧Below w.heap.size w w':=by
 have hck:=Zdr T R S C i b o;rw[Zbg h0] at hck;have HX:=Zab (RSP.new w T R S C i b o);clear h0;generalize svE T R S C i b o=x at*
 go_enter func245,ntmps245
 go_wp2_with (go_at_call 159;refine Sb (hck _) fun w1 hb1=>?_;have HX:=Zab (HX.out.later hb1);obtain⟨⟨⟨q0,q1,q2,q3⟩,⟨s0,s1,s2⟩,_⟩,⟨p0,p1⟩,pf,_⟩:=HX.out;have f0:=pf 0 (by omega);have f1:=pf 1 (by omega);clear hb1 pf);exact bodyPost_ret (v:=.tuple #[.agg #[Vi 0,Vi 0],.iface 44 (Vi x)]) (by simp[results,results245,go_sem,p0,p1]) rfl ⟨rfl,(HX.out.1.2.2.setCell (by simp;omega) _).setCell (by simp;omega) _⟩
def RSQ(w0 w:World)(Q:Nat)(T R S C i b:Int)(o:Bool):Prop:=RS w0 w T R S C i b o∧FrA w (w0.heap.size+1) 3∧B3 w Q (Vi 0) (Vi 0) (.bool false)∧FrA w Q 3
theorem RSQ.later{w0 w w':World}{Q:Nat}{T R S C i b:Int}{o:Bool}(h:RSQ w0 w Q T R S C i b o)(hb:Below w.heap.size w w'):RSQ w0 w' Q T R S C i b o:=⟨h.1.later hb,h.2.1.later hb,h.2.2.1.later hb,h.2.2.2.later hb⟩
theorem frS(w:World)(T R S C i b:Int)(o:Bool):FrA ((w.alloc (.cells #[Vi T,Vi R,Vi S,Vi C] 113)).alloc (.cells #[Vi i,Vi b,.bool o] 116)) (w.heap.size+1) 3:=by
 rw[←size_alloc w (.cells #[Vi T,Vi R,Vi S,Vi C] 113)];exact FrA.new
theorem RSQ.new3(w:World)(T R S C i b:Int)(o y:Bool)(z:Int):RSQ w ((((w.alloc (.cells #[Vi T,Vi R,Vi S,Vi C] 113)).alloc (.cells #[Vi i,Vi b,.bool o] 116)).alloc (.cells #[.bool y,Vi z] 131)).alloc (.cells #[Vi 0,Vi 0,.bool false] 116)) (w.heap.size+1+1+1) T R S C i b o∧B2 ((((w.alloc (.cells #[Vi T,Vi R,Vi S,Vi C] 113)).alloc (.cells #[Vi i,Vi b,.bool o] 116)).alloc (.cells #[.bool y,Vi z] 131)).alloc (.cells #[Vi 0,Vi 0,.bool false] 116)) (w.heap.size+1+1) (.bool y) (Vi z):=by
 have e:(((w.alloc (.cells #[Vi T,Vi R,Vi S,Vi C] 113)).alloc (.cells #[Vi i,Vi b,.bool o] 116)).alloc (.cells #[.bool y,Vi z] 131)).heap.size=w.heap.size+1+1+1:=by simp[go_sem]
 have e2:((w.alloc (.cells #[Vi T,Vi R,Vi S,Vi C] 113)).alloc (.cells #[Vi i,Vi b,.bool o] 116)).heap.size=w.heap.size+1+1:=by simp[go_sem]
 refine⟨⟨((RS.new w T R S C i b o).later (Zaa _ _)).later (Zaa _ _),((frS w T R S C i b o).later (Zaa _ _)).later (Zaa _ _),?_,?_⟩,?_⟩
 · rw[←e];exact B3.new _ _ _ _ _
 · rw[←e];exact FrA.new
 · rw[←e2];exact(B2.new _ _ _ _).later (Zaa _ _)
def atB(S i z:Int)(y:Bool):Bool:=y&&betw z (i-S) (i+S)
def Zhq(S i z:Int)(o y:Bool):Bool:=o||atB S i z y
def wI(S C i b z:Int)(o y:Bool):Int:=if Zhq S i z o y then i else if b+1=C then 0 else i
def wB(S i b z:Int)(o y:Bool):Int:=if Zhq S i z o y then b else b+1
def wO(S C i b z:Int)(o y:Bool):Bool:=if Zhq S i z o y then o else decide (b+1=C)
theorem w_fine{S C i b z:Int}{o y:Bool}(h:Zhq S i z o y=true):wI S C i b z o y=i∧wB S i b z o y=b∧wO S C i b z o y=o:=by
 unfold wI wB wO;rw[if_pos h,if_pos h,if_pos h];exact⟨rfl,rfl,rfl⟩
theorem w_last{S C i b z:Int}{o y:Bool}(h:Zhq S i z o y=false)(hq:b+1=C):wI S C i b z o y=0∧wB S i b z o y=b+1∧wO S C i b z o y=true:=by
 unfold wI wB wO;rw[h];simp[hq]
theorem w_more{S C i b z:Int}{o y:Bool}(h:Zhq S i z o y=false)(hq:b+1≠C):wI S C i b z o y=i∧wB S i b z o y=b+1∧wO S C i b z o y=false:=by
 unfold wI wB wO;rw[h];simp[hq]
theorem atPlace_any(T R S C i b:Int)(o y:Bool)(z:Int)(i0:-1000≤i)(i1:i≤1000)(s0:0≤S)(s1:S≤1000)(w:World):
 Calls prog 160 #[.agg #[Vi T,Vi R,Vi S,Vi C],.agg #[Vi i,Vi b,.bool o],.agg #[.bool y,Vi z]] w fun e w'=>e=.returned (.bool (atB S i z y))∧Below w.heap.size w w':=by
 have f1:=Zcw z (i-S) (i+S);have HN:=Zab (Zac (RS.new w T R S C i b o).2.2 (Zaa _ (.cells #[.bool y,Vi z] 131)))
 unfold atB
 generalize betw z (i-S) (i+S)=x at*
 cases y
 · go_enter func160,ntmps160
   go_wp2;go_ret;exact⟨rfl,HN.out⟩
 · go_enter func160,ntmps160
   go_wp2_with (go_at_call 76;refine Sb (f1 _) fun w1 hb1=>?_);go_ret;exact⟨by simp,Zac HN.out hb1⟩
theorem watch_ok(T R S C i b:Int)(o y:Bool)(z:Int)(h0:svE T R S C i b o=0)(w:World):
 Calls prog 105 #[.agg #[Vi T,Vi R,Vi S,Vi C],.agg #[Vi i,Vi b,.bool o],.agg #[.bool y,Vi z]] w fun e w'=>e=.returned (.tuple #[.agg #[Vi (wI S C i b z o y),Vi (wB S i b z o y),.bool (wO S C i b z o y)],.nilIface])∧Below w.heap.size w w':=by
 have hck:=Zdr T R S C i b o;rw[h0,Zar] at hck;have HX:=Zab (RSQ.new3 w T R S C i b o y z);obtain⟨hr,hs⟩:=Zhf h0;have ⟨⟨t0,t1⟩,_,⟨k0,k1⟩,c0,c1⟩:=Zat hr;have i0:=(Zbd hs).1.1;have i1:=(Zbd hs).1.2;have b0:=(Zbd hs).2.1.1;have b1:=(Zbd hs).2.1.2;have hap:=atPlace_any T R S C i b o y z (by omega) (by omega) (by omega) (by omega);clear hr hs h0;have hfi:Zhq S i z o y=(o||atB S i z y):=rfl;generalize atB S i z y=a at*
 cases o
 · cases a
   · by_cases hq:b+1=C
     · obtain⟨e1,e2,e3⟩:=w_last (C:=C) (b:=b) hfi hq;rw[e1,e2,e3];clear hfi e1 e2 e3
       have hq':(b+1==C)=true:=by simpa using hq
       clear hq
       go_enter func105,ntmps105
       go_wp2_with (first
        |(go_at_call 159;refine Sb (hck _) fun w1 hb1=>?_;have HX:=Zab (⟨HX.out.1.later hb1,HX.out.2.later hb1⟩:RSQ w w1 (w.heap.size+1+1+1) T R S C i b false∧B2 w1 (w.heap.size+1+1) (.bool y) (Vi z));obtain⟨⟨⟨⟨q0,q1,q2,q3⟩,⟨s0,s1,s2⟩,_⟩,⟨sf,_⟩,⟨p0,p1,p2⟩,pf,_⟩,m0,m1⟩:=HX.out;have g0:=sf 0 (by omega);have g1:=sf 1 (by omega);have g2:=sf 2 (by omega);have f0:=pf 0 (by omega);have f1:=pf 1 (by omega);have f2:=pf 2 (by omega);clear hb1 sf pf)
        |(go_at_call 160;refine Sb (hap _) fun w2 hb2=>?_;have HX:=Zab (⟨HX.out.1.later hb2,HX.out.2.later hb2⟩:RSQ w w2 (w.heap.size+1+1+1) T R S C i b false∧B2 w2 (w.heap.size+1+1) (.bool y) (Vi z));obtain⟨⟨⟨⟨q0,q1,q2,q3⟩,⟨s0,s1,s2⟩,_⟩,⟨sf,_⟩,⟨p0,p1,p2⟩,pf,_⟩,m0,m1⟩:=HX.out;have g0:=sf 0 (by omega);have g1:=sf 1 (by omega);have g2:=sf 2 (by omega);have f0:=pf 0 (by omega);have f1:=pf 1 (by omega);have f2:=pf 2 (by omega);clear hb2 sf pf))
       exact bodyPost_ret (v:=.tuple #[.agg #[Vi 0,Vi (b+1),.bool true],.nilIface]) (by simp[results,results105,go_sem,p0,p1,p2]) rfl ⟨rfl,(((((HX.out.1.1.2.2.setCell (by simp) _).setCell (by simp) _).setCell (by simp) _).setCell (by simp;omega) _).setCell (by simp;omega) _).setCell (by simp;omega) _⟩
     · obtain⟨e1,e2,e3⟩:=w_more (C:=C) (b:=b) hfi hq;rw[e1,e2,e3];clear hfi e1 e2 e3
       have hq':(b+1==C)=false:=by simpa using hq
       clear hq
       go_enter func105,ntmps105
       go_wp2_with (first
        |(go_at_call 159;refine Sb (hck _) fun w1 hb1=>?_;have HX:=Zab (⟨HX.out.1.later hb1,HX.out.2.later hb1⟩:RSQ w w1 (w.heap.size+1+1+1) T R S C i b false∧B2 w1 (w.heap.size+1+1) (.bool y) (Vi z));obtain⟨⟨⟨⟨q0,q1,q2,q3⟩,⟨s0,s1,s2⟩,_⟩,⟨sf,_⟩,⟨p0,p1,p2⟩,pf,_⟩,m0,m1⟩:=HX.out;have g0:=sf 0 (by omega);have g1:=sf 1 (by omega);have g2:=sf 2 (by omega);have f0:=pf 0 (by omega);have f1:=pf 1 (by omega);have f2:=pf 2 (by omega);clear hb1 sf pf)
        |(go_at_call 160;refine Sb (hap _) fun w2 hb2=>?_;have HX:=Zab (⟨HX.out.1.later hb2,HX.out.2.later hb2⟩:RSQ w w2 (w.heap.size+1+1+1) T R S C i b false∧B2 w2 (w.heap.size+1+1) (.bool y) (Vi z));obtain⟨⟨⟨⟨q0,q1,q2,q3⟩,⟨s0,s1,s2⟩,_⟩,⟨sf,_⟩,⟨p0,p1,p2⟩,pf,_⟩,m0,m1⟩:=HX.out;have g0:=sf 0 (by omega);have g1:=sf 1 (by omega);have g2:=sf 2 (by omega);have f0:=pf 0 (by omega);have f1:=pf 1 (by omega);have f2:=pf 2 (by omega);clear hb2 sf pf))
       exact bodyPost_ret (v:=.tuple #[.agg #[Vi i,Vi (b+1),.bool false],.nilIface]) (by simp[results,results105,go_sem,p0,p1,p2]) rfl ⟨rfl,(((HX.out.1.1.2.2.setCell (by simp) _).setCell (by simp;omega) _).setCell (by simp;omega) _).setCell (by simp;omega) _⟩
   · obtain⟨e1,e2,e3⟩:=w_fine (C:=C) (b:=b) hfi;rw[e1,e2,e3];clear hfi e1 e2 e3
     go_enter func105,ntmps105
     go_wp2_with (first
      |(go_at_call 159;refine Sb (hck _) fun w1 hb1=>?_;have HX:=Zab (⟨HX.out.1.later hb1,HX.out.2.later hb1⟩:RSQ w w1 (w.heap.size+1+1+1) T R S C i b false∧B2 w1 (w.heap.size+1+1) (.bool y) (Vi z));obtain⟨⟨⟨⟨q0,q1,q2,q3⟩,⟨s0,s1,s2⟩,_⟩,⟨sf,_⟩,⟨p0,p1,p2⟩,pf,_⟩,m0,m1⟩:=HX.out;have g0:=sf 0 (by omega);have g1:=sf 1 (by omega);have g2:=sf 2 (by omega);have f0:=pf 0 (by omega);have f1:=pf 1 (by omega);have f2:=pf 2 (by omega);clear hb1 sf pf)
      |(go_at_call 160;refine Sb (hap _) fun w2 hb2=>?_;have HX:=Zab (⟨HX.out.1.later hb2,HX.out.2.later hb2⟩:RSQ w w2 (w.heap.size+1+1+1) T R S C i b false∧B2 w2 (w.heap.size+1+1) (.bool y) (Vi z));obtain⟨⟨⟨⟨q0,q1,q2,q3⟩,⟨s0,s1,s2⟩,_⟩,⟨sf,_⟩,⟨p0,p1,p2⟩,pf,_⟩,m0,m1⟩:=HX.out;have g0:=sf 0 (by omega);have g1:=sf 1 (by omega);have g2:=sf 2 (by omega);have f0:=pf 0 (by omega);have f1:=pf 1 (by omega);have f2:=pf 2 (by omega);clear hb2 sf pf))
     exact bodyPost_ret (v:=.tuple #[.agg #[Vi i,Vi b,.bool false],.nilIface]) (by simp[results,results105,go_sem,p0,p1,p2]) rfl ⟨rfl,((HX.out.1.1.2.2.setCell (by simp;omega) _).setCell (by simp;omega) _).setCell (by simp;omega) _⟩
 · obtain⟨e1,e2,e3⟩:=w_fine (C:=C) (b:=b) hfi;rw[e1,e2,e3];clear hfi e1 e2 e3
   go_enter func105,ntmps105
   go_wp2_with (first
    |(go_at_call 159;refine Sb (hck _) fun w1 hb1=>?_;have HX:=Zab (⟨HX.out.1.later hb1,HX.out.2.later hb1⟩:RSQ w w1 (w.heap.size+1+1+1) T R S C i b true∧B2 w1 (w.heap.size+1+1) (.bool y) (Vi z));obtain⟨⟨⟨⟨q0,q1,q2,q3⟩,⟨s0,s1,s2⟩,_⟩,⟨sf,_⟩,⟨p0,p1,p2⟩,pf,_⟩,m0,m1⟩:=HX.out;have g0:=sf 0 (by omega);have g1:=sf 1 (by omega);have g2:=sf 2 (by omega);have f0:=pf 0 (by omega);have f1:=pf 1 (by omega);have f2:=pf 2 (by omega);clear hb1 sf pf))
   exact bodyPost_ret (v:=.tuple #[.agg #[Vi i,Vi b,.bool true],.nilIface]) (by simp[results,results105,go_sem,p0,p1,p2]) rfl ⟨rfl,((HX.out.1.1.2.2.setCell (by simp;omega) _).setCell (by simp;omega) _).setCell (by simp;omega) _⟩
theorem watched_any(T R S C i b:Int)(o y:Bool)(z:Int)(hr:arB T R S C=true)(hs:svB T C i b o=true)(w:World):
 Calls prog 51 #[.agg #[Vi T,Vi R,Vi S,Vi C],.agg #[Vi i,Vi b,.bool o],.agg #[.bool y,Vi z]] w fun e w'=>e=.returned (.agg #[Vi (wI S C i b z o y),Vi (wB S i b z o y),.bool (wO S C i b z o y)])∧Below w.heap.size w w':=by
 have ⟨⟨t0,t1⟩,_,⟨k0,k1⟩,c0,c1⟩:=Zat hr;have i0:=(Zbd hs).1.1;have i1:=(Zbd hs).1.2;have b0:=(Zbd hs).2.1.1;have b1:=(Zbd hs).2.1.2;have hbw:=Zaj z (i-S) (i+S);clear hr hs;have hfi:Zhq S i z o y=(o||(y&&betw z (i-S) (i+S))):=rfl;generalize betw z (i-S) (i+S)=x at*
 rcases(show o=true∨(o=false∧y=false)∨(o=false∧y=true∧x=false)∨(o=false∧y=true∧x=true) by cases o<;>cases y<;>cases x<;>simp) with rfl|⟨rfl,rfl⟩|⟨rfl,rfl,rfl⟩|⟨rfl,rfl,rfl⟩
 case inl|inr.inr.inr=>
  obtain⟨e1,e2,e3⟩:=w_fine (C:=C) (b:=b) hfi;rw[e1,e2,e3];clear hfi e1 e2 e3
  go_enter func51,ntmps51
  go_wp2_with (go_at_call 38;refine Sm (hbw _) ?_)
  first
   |exact bodyPost_ret (v:=.agg #[Vi i,Vi b,.bool true]) (by simp[results,results51,go_sem]) rfl ⟨rfl,by repeat (first|exact Zaa _ _|refine Zac ?_ (Zaa _ _))⟩
   |exact bodyPost_ret (v:=.agg #[Vi i,Vi b,.bool false]) (by simp[results,results51,go_sem]) rfl ⟨rfl,by repeat (first|exact Zaa _ _|refine Zac ?_ (Zaa _ _))⟩
 all_goals
  by_cases hq:b+1=C
  · obtain⟨e1,e2,e3⟩:=w_last (C:=C) (b:=b) hfi hq;rw[e1,e2,e3];clear hfi e1 e2 e3
    have hq':(b+1==C)=true:=by simpa using hq
    clear hq
    go_enter func51,ntmps51
    go_wp2_with (go_at_call 38;refine Sm (hbw _) ?_);exact bodyPost_ret (v:=.agg #[Vi 0,Vi (b+1),.bool true]) (by simp[results,results51,go_sem]) rfl ⟨rfl,by repeat (first|exact Zaa _ _|refine Zac ?_ (Zaa _ _))⟩
  · obtain⟨e1,e2,e3⟩:=w_more (C:=C) (b:=b) hfi hq;rw[e1,e2,e3];clear hfi e1 e2 e3
    have hq':(b+1==C)=false:=by simpa using hq
    clear hq
    go_enter func51,ntmps51
    go_wp2_with (go_at_call 38;refine Sm (hbw _) ?_);exact bodyPost_ret (v:=.agg #[Vi i,Vi (b+1),.bool false]) (by simp[results,results51,go_sem]) rfl ⟨rfl,by repeat (first|exact Zaa _ _|refine Zac ?_ (Zaa _ _))⟩
theorem Zad{w:World}{a c:Addr}{v u:Value}(h:w.cell? a=some u)(hc:c≠a):(w.setCell c v).cell? a=some u:=(World.cell?_setCell_other _ _ _ _ hc).trans h
theorem Zao{w:World}{a:Addr}{v u:Value}(h:w.cell? a=some u):(w.setCell a v).cell? a=some v:=by simp[go_sem,h]
theorem Zau{C B q j:Nat}(hc:C≠B):(⟨C,q,none⟩:Addr)≠⟨B,j,none⟩:=fun e=>hc (congrArg Addr.block e)
theorem Zai{B q j:Nat}(hc:q≠j):(⟨B,q,none⟩:Addr)≠⟨B,j,none⟩:=fun e=>hc (congrArg Addr.off e)
theorem B3.sset{w:World}{B C q:Nat}{a b c v:Value}(h:B3 w B a b c)(hc:C≠B):B3 (w.setCell (Ad C q) v) B a b c:=⟨Zad h.1 (Zau hc),Zad h.2.1 (Zau hc),Zad h.2.2 (Zau hc)⟩
theorem B4.sset{w:World}{B C q:Nat}{a b c d v:Value}(h:B4 w B a b c d)(hc:C≠B):B4 (w.setCell (Ad C q) v) B a b c d:=⟨Zad h.1 (Zau hc),Zad h.2.1 (Zau hc),Zad h.2.2.1 (Zau hc),Zad h.2.2.2 (Zau hc)⟩
theorem B3.sput{w:World}{B:Nat}{a b c:Value}(h:B3 w B a b c)(p q r:Value):B3 (((w.setCell (Ad B 0) p).setCell (Ad B 1) q).setCell (Ad B 2) r) B p q r:=
 ⟨Zad (Zad (Zao h.1) (Zai (by decide))) (Zai (by decide)),Zad (Zao (Zad h.2.1 (Zai (by decide)))) (Zai (by decide)),Zao (Zad (Zad h.2.2 (Zai (by decide))) (Zai (by decide)))⟩
def ILs(w:World)(a:Option Addr)(l:List Int):Prop:=l=[]∨∃b off,a=some (Ad b off)∧∀k,k<l.length→w.cell? (Ad b (off+k))=some (Vi (l.getD k 0))
theorem ILs.later{w w':World}{a:Option Addr}{l:List Int}(h:ILs w a l)(hb:Below w.heap.size w w'):ILs w' a l:=by
 rcases h with h|⟨b,off,h,hc⟩
 · exact .inl h
 · exact .inr ⟨b,off,h,fun k hk=>cell_later hb (hc k hk)⟩
theorem ILs.at{w:World}{a:Option Addr}{l:List Int}(h:ILs w a l){k:Nat}(hk:k<l.length):∃b off,a=some (Ad b off)∧w.cell? (Ad b (off+k))=some (Vi (l.getD k 0)):=by
 rcases h with h|⟨b,off,h,hc⟩
 · subst h;simp at hk
 · exact⟨b,off,h,hc k hk⟩
def SLs(w:World)(a:Option Addr)(l:List (Bool×Int)):Prop:=l=[]∨∃b off,a=some (Ad b off)∧∀k,k<l.length→w.cell? (Ad b (off+k*2))=some (.bool (l.getD k (false,0)).1)∧w.cell? (Ad b (off+k*2+1))=some (Vi (l.getD k (false,0)).2)
theorem SLs.later{w w':World}{a:Option Addr}{l:List (Bool×Int)}(h:SLs w a l)(hb:Below w.heap.size w w'):SLs w' a l:=by
 rcases h with h|⟨b,off,h,hc⟩
 · exact .inl h
 · exact .inr ⟨b,off,h,fun k hk=>⟨cell_later hb (hc k hk).1,cell_later hb (hc k hk).2⟩⟩
theorem SLs.at{w:World}{a:Option Addr}{l:List (Bool×Int)}(h:SLs w a l){k:Nat}(hk:k<l.length):∃b off,a=some (Ad b off)∧w.cell? (Ad b (off+k*2))=some (.bool (l.getD k (false,0)).1)∧w.cell? (Ad b (off+k*2+1))=some (Vi (l.getD k (false,0)).2):=by
 rcases h with h|⟨b,off,h,hc⟩
 · subst h;simp at hk
 · exact⟨b,off,h,hc k hk⟩
theorem sv_mk{T C i b:Int}{o:Bool}(h1:-T≤i∧i≤T)(h2:0≤b∧b≤C)(h3:o=true→i=0)(h4:o=false→b<C):svB T C i b o=true:=by
 simp only[svB,Bool.and_eq_true,Bool.or_eq_true,Bool.not_eq_true',beq_iff_eq,decide_eq_true_eq];refine⟨⟨⟨Zbm h1.1 h1.2,Zbm h2.1 h2.2⟩,?_⟩,?_⟩
 · cases o
   · exact .inl rfl
   · exact .inr (h3 rfl)
 · cases o
   · exact .inr (h4 rfl)
   · exact .inl rfl
theorem Zio{x:Int}(h0:-9223372036854775808≤x)(h1:x≤9223372036854775807):IntKind.i64.wrap x=x:=by
 rw[IntKind.wrap_i64];omega
structure DK (O:Nat) (w w':World):Prop where
 os:w'.os=w.os
 tape:w'.tape=w.tape
 output:w'.output=w.output
 size:w.heap.size≤w'.heap.size
 block:∀k,k<w.heap.size→k≠O→w'.heap[k]?=w.heap[k]?
theorem DK.refl(O:Nat)(w:World):DK O w w:=⟨rfl,rfl,rfl,Nat.le_refl _,fun _ _ _=>rfl⟩
theorem DK.trans{O:Nat}{a b c:World}(h:DK O a b)(k:DK O b c):DK O a c:=⟨k.os.trans h.os,k.tape.trans h.tape,k.output.trans h.output,Nat.le_trans h.size k.size,fun i hi ho=>(k.block i (Nat.lt_of_lt_of_le hi h.size) ho).trans (h.block i hi ho)⟩
theorem DK.cell{O:Nat}{w w':World}(h:DK O w w'){p:Addr}{v:Value}(ho:p.block≠O)(hv:w.cell? p=some v):w'.cell? p=some v:=
 (World.cell?_of_block (w:=w) (h.block p.block (World.block_lt_of_cell? w p hv) ho)).trans hv
theorem DK.of_below{O:Nat}{w w':World}(h:Below w.heap.size w w'):DK O w w':=⟨h.os,h.tape,h.output,h.size,fun k hs _=>h.block k hs⟩
theorem DK.set{O j:Nat}{a w:World}(h:DK O a w)(v:Value):DK O a (w.setCell (Ad O j) v):=⟨h.os,h.tape,h.output,by simpa using h.size,fun k hk ho=>(Below.heap_setCell w ⟨O,j,none⟩ v k ho).trans (h.block k hk ho)⟩
theorem DK.below{O K:Nat}{w0 w w':World}(h:Below K w0 w)(d:DK O w w')(hO:K≤O)(hK:K≤w.heap.size):Below K w0 w':=
 ⟨d.os.trans h.os,d.tape.trans h.tape,d.output.trans h.output,Nat.le_trans h.size d.size,fun k hk=>(d.block k (by omega) (by omega)).trans (h.block k hk)⟩
theorem DK.drewN{O:Nat}{a w:World}(h:DK O a w)(n:Nat):DK O a (w.drewN n):=h.trans (DK.of_below (below_drewN (Below.refl _ _) n))
def Dc(w:World)(O:Nat)(a:Option Addr)(l:List Int)(cap n:Nat):Prop:=
 (w.cell? (Ad O 0)=some (.slice a l.length cap)∧w.cell? (Ad O 1)=some (Vi (n:Int)))∧w.frozen? (Ad O 1)=false∧ILs w a l∧(∀b off,a=some (Ad b off)→l≠[]→b≠O)
theorem Dc.later{w w':World}{O:Nat}{a:Option Addr}{l:List Int}{cap n:Nat}(h:Dc w O a l cap n)(hb:Below w.heap.size w w'):Dc w' O a l cap n:=
 ⟨⟨cell_later hb h.1.1,cell_later hb h.1.2⟩,(hb.frozen (p:=⟨O,1,none⟩) (World.block_lt_of_cell? w ⟨O,1,none⟩ h.1.2)).trans h.2.1,h.2.2.1.later hb,h.2.2.2⟩
theorem ILs.dset{w:World}{a:Option Addr}{l:List Int}{O j:Nat}{v:Value}(h:ILs w a l)(hne:∀b off,a=some (Ad b off)→l≠[]→b≠O):ILs (w.setCell (Ad O j) v) a l:=by
 rcases h with h|⟨b,off,h,hc⟩
 · exact .inl h
 · by_cases hl:l=[]
   · exact .inl hl
   · exact .inr ⟨b,off,h,fun k hk=>Zad (hc k hk) (Zau (Ne.symm (hne b off h hl)))⟩
theorem Dc.next{w:World}{O:Nat}{a:Option Addr}{l:List Int}{cap n:Nat}(h:Dc w O a l cap n):Dc (w.setCell (Ad O 1) (Vi ((n:Int)+1))) O a l cap (n+1):=by
 refine⟨⟨Zad h.1.1 (Zai (by decide)),?_⟩,by simpa[go_sem] using h.2.1,h.2.2.1.dset h.2.2.2,h.2.2.2⟩;rw[show(((n+1:Nat):Int))=(n:Int)+1 by omega];exact Zao h.1.2
theorem Dc.lt{w:World}{O:Nat}{a:Option Addr}{l:List Int}{cap n:Nat}(h:Dc w O a l cap n):O<w.heap.size:=World.block_lt_of_cell? w ⟨O,1,none⟩ h.1.2
theorem dpick_any(n d:Int)(d0:0<d)(d1:d≤8000000000000)(w:World):
 Calls prog 24 #[Vi n,Vi d] w fun e w'=>(∃x,e=.returned (Vi x)∧0≤x∧x<d)∧w'=w:=
 (pick_any n d d0 d1 w).mono fun e w' h=>⟨⟨_,h.1,Int.emod_nonneg _ (by omega),Int.emod_lt_of_pos _ d0⟩,h.2⟩
theorem Zfd(O:Nat)(a:Option Addr)(l:List Int)(cap n:Nat)(m:Int)(m0:0<m)(m1:m≤8000000000000)(hn:n≤1000000)(hl:l.length≤100)(w:World)(hd:Dc w O a l cap n):
 Calls prog 67 #[.pointer (some (Ad O 0)),Vi m] w fun e w'=>(∃x,e=.returned (Vi x)∧0≤x∧x<m)∧Dc w' O a l cap (n+1)∧DK O w w'∧w'.heap.size=w.heap.size:=by
 have HD:=Zab hd;have hpk:=fun x=>dpick_any x m m0 m1;obtain⟨⟨c0,c1⟩,cf,hil,_⟩:=hd
 by_cases h0:0<l.length
 · have hlt:n%l.length<l.length:=Nat.mod_lt _ h0;obtain⟨bl,ol,rfl,ci⟩:=hil.at hlt;obtain⟨j,hj⟩:∃j,n%l.length=j:=⟨_,rfl⟩;rw[hj] at hlt ci
   have e1:((n:Int)).tmod (l.length:Int)=(j:Int):=by rw[←hj];rfl
   have e2:((n:Int))%(l.length:Int)=(j:Int):=by rw[←hj];rfl
   obtain⟨q,hqn⟩:∃q,n/l.length=q:=⟨_,rfl⟩
   have hq:((n:Int)).tdiv (l.length:Int)=(q:Int):=by rw[←hqn];rfl
   have hq':((n:Int))/(l.length:Int)=(q:Int):=by rw[←hqn];rfl
   have qb:(q:Int)≤1000000:=by
    have:n/l.length≤n:=Nat.div_le_self _ _
    omega
   generalize l.getD j 0=x at *;have tb:=tmod_bd x 1000000007 1000000007 (by omega) (by omega) (by omega)
   have hlb:(0:Int)<(l.length:Int):=by omega
   have j0:(0:Int)≤(j:Int):=by omega
   have j1:(j:Int)<(l.length:Int):=by omega
   have z1:((l.length:Int)==0)=false:=beq_eq_false_iff_ne.2 (by omega)
   have n0:(n:Int)≤1000000:=by omega
   have v1:=Wr (7919*(q:Int));have v2:=Wr (x.tmod 1000000007+7919*(q:Int));clear hil hj hqn
   go_enter func67,ntmps67
   go_upto_region 3 with fail;go_quiet (fail)
   go_wp2_with (go_at_call 24;refine(hpk _ _).mono ?_;rintro e w' ⟨⟨y,rfl,y0,y1⟩,hq⟩;have hq:=hq.symm;subst hq);go_ret;exact⟨⟨_,rfl,y0,y1⟩,(HD.out.later (below_drewN (Below.refl _ _) _)).next,((DK.refl _ _).drewN _).set _,by simp[go_sem]⟩
 · have e:l.length=0:=by omega
   have hz:(l.length:Int)=0:=by omega
   have n0:(n:Int)≤1000000:=by omega
   have hz':¬(0:Int)<(l.length:Int):=by omega
   clear hil e hz
   go_enter func67,ntmps67
   go_wp2_with (go_at_call 24;refine(hpk _ _).mono ?_;rintro e w' ⟨⟨x,rfl,x0,x1⟩,hq⟩;have hq:=hq.symm;subst hq);go_ret;exact⟨⟨_,rfl,x0,x1⟩,HD.out.next,(DK.refl _ _).set _,by simp[go_sem]⟩
theorem Zcx(O B:Nat)(a:Option Addr)(l:List Int)(cap n c2:Nat)(vs:List Int)(lo hi:Int)(hn:n≤1000000)(hl:l.length≤100)(hv:0<vs.length)(hv':vs.length≤100)(hb:∀k,k<vs.length→lo≤vs.getD k 0∧vs.getD k 0≤hi)(hBO:B≠O)(w:World)(hd:Dc w O a l cap n)(hc:∀k,k<vs.length→w.cell? (Ad B k)=some (Vi (vs.getD k 0))):
 Calls prog 70 #[.pointer (some (Ad O 0)),.slice (some (Ad B 0)) vs.length c2] w fun e w'=>(∃x,e=.returned (Vi x)∧lo≤x∧x≤hi)∧Dc w' O a l cap (n+1)∧DK O w w'∧w'.heap.size=w.heap.size:=by
 have hN:=Zfd O a l cap n (vs.length:Int) (by omega) (by omega) hn hl w hd;have HC:=Zab hc;have HB:=Zab hb;clear hc hb hd
 go_enter func70,ntmps70
 go_wp2_with (go_at_call 67;refine hN.mono ?_;rintro e w1 ⟨⟨x,rfl,x0,x1⟩,hD1,hK1,hs1⟩;obtain⟨k,hk⟩:∃k:Nat,x=(k:Int):=⟨x.toNat,by omega⟩;subst hk;have ck:=hK1.cell (p:=⟨B,k,none⟩) hBO (HC.out k (by omega));have HD:=Zab hD1;have HK:=Zab hK1;have HS:=Zab hs1;clear hD1 hK1 hs1);go_ret;have hbk:=HB.out k (by omega);exact⟨⟨_,rfl,hbk.1,hbk.2⟩,HD.out,HK.out,HS.out⟩
theorem dN{O:Nat}{a:Option Addr}{l:List Int}{cap n:Nat}{w:World}(m:Int)(hl:l.length≤100)(hd:Dc w O a l cap n)(m0:0<m:=by omega)(m1:m≤8000000000000:=by omega)(hn:n≤1000000:=by omega):Calls prog 67 #[.pointer (some (Ad O 0)),Vi m] w fun e w'=>(∃x,e=.returned (Vi x)∧0≤x∧x<m)∧Dc w' O a l cap (n+1)∧DK O w w'∧w'.heap.size=w.heap.size:=Zfd O a l cap n m m0 m1 hn hl w hd
theorem Zhw(a0 a1 a2 a3 a4 a5 a6 a7 a8 a9 a10 a11 a14:Int)(ga gi:Value)(h3:0≤a3∧a3≤1000)(h7:0≤a7∧a7≤1000)(h4:2≤a4∧a4≤4)(h5:1≤a5∧a5≤1000)(h6:1≤a6∧a6≤1000)(w:World):
 Calls prog 40 #[.agg #[Vi a0,Vi a1,Vi a2,Vi a3,Vi a4,Vi a5,Vi a6,Vi a7,Vi a8,Vi a9,Vi a10,Vi a11,ga,gi,Vi a14]] w
  fun e w'=>e=.returned (.agg #[Vi a0,Vi a1,Vi a2,Vi (a3+a7),Vi ((a4-1)*a5),Vi ((a4-1)*a6)])∧Below w.heap.size w w':=by
 obtain⟨x3,y3⟩:=h3;obtain⟨x7,y7⟩:=h7;obtain⟨x4,y4⟩:=h4
 have b5:0≤(a4-1)*a5∧(a4-1)*a5≤3000:=by
  rcases(show a4=2∨a4=3∨a4=4 by omega) with rfl|rfl|rfl<;>omega
 have b6:0≤(a4-1)*a6∧(a4-1)*a6≤3000:=by
  rcases(show a4=2∨a4=3∨a4=4 by omega) with rfl|rfl|rfl<;>omega
 have v5:=Wr ((a4-1)*a5);have v6:=Wr ((a4-1)*a6);obtain⟨b50,b51⟩:=b5;obtain⟨b60,b61⟩:=b6
 go_enter func40,ntmps40
 go_wp2;exact bodyPost_ret (v:=.agg #[Vi a0,Vi a1,Vi a2,Vi (a3+a7),Vi ((a4-1)*a5),Vi ((a4-1)*a6)]) (by simp[results,results40,go_sem]) rfl ⟨rfl,Zac (Zaa _ _) (Zaa _ _)⟩
end Go.Proofs.YtnfdfiholcelaaaGreatDoor
