import Derived.Deep.RegionHeld3
import Derived.Deep.CutRange
import Derived.Deep.DeepCutAuto
import Derived.BigRegion
import Derived.Test.YtnfdfiholcelaaaGreatDoorJh00
import Derived.Test.YtnfdfiholcelaaaGreatDoorJh01
import Derived.Test.YtnfdfiholcelaaaGreatDoorJh04
import Derived.Test.YtnfdfiholcelaaaGreatDoorJh06
set_option maxRecDepth 100000
set_option maxHeartbeats 20000000
namespace Go.Proofs.YtnfdfiholcelaaaGreatDoor
open Go.RowKit Plain Tryz
theorem fndV_smp(l:List Rd)(x y:Int):∃(r1 r2 r3 r4:Int) (b:Bool),fndV x y l=.tuple #[.agg #[Vi r1,Vi r2,Vi r3,Vi r4],.bool b]∧((b=true∧r3=3∧smp l x y=(true,r4))∨(b=true∧r3≠3∧smp l x y=(false,0))∨(b=false∧smp l x y=(false,0))):=by
 unfold fndV smp
 cases fnd x y l with
 |none=>exact⟨0,0,0,0,false,rfl,.inr (.inr ⟨rfl,rfl⟩)⟩
 |some r=>
  by_cases h:r.2.2.1=3
  · exact⟨r.1,r.2.1,r.2.2.1,r.2.2.2,true,rfl,.inl ⟨rfl,h,by simp[h]⟩⟩
  · exact⟨r.1,r.2.1,r.2.2.1,r.2.2.2,true,rfl,.inr (.inl ⟨rfl,h,by simp[h]⟩)⟩
theorem Zhh(B:Nat)(a:Option Addr)(cap:Nat)(l:List Rd)(x y:Int)(hl:l.length≤1000)(w:World)(hc:w.cell? (Ad B 62)=some (.slice a l.length cap))(hr:Rds w a l):
 Calls prog 107 #[.pointer (some (Ad B 0)),Vi x,Vi y] w fun e w'=>e=.returned (.agg #[.bool (smp l x y).1,Vi (smp l x y).2])∧Below w.heap.size w w':=by
 have HR:=Zab (hr.later (Zaa w (.cells #[.bool false,Vi 0] 131)));have HZ:Hid (Blk 131 (w.alloc (.cells #[.bool false,Vi 0] 131)) w.heap.size [.bool false,Vi 0]):=Zab (Blk.new w _ _);have HB:=Zab (Zaa w (.cells #[.bool false,Vi 0] 131));have hc1:=cell_later (Zaa w (.cells #[.bool false,Vi 0] 131)) hc;clear hc;clear hr;obtain⟨r1,r2,r3,r4,b,hfv,hs⟩:=fndV_smp l x y;have hs':Hid _:=Zab hs;clear hs
 go_enter func107,ntmps107
 go_upto_region 1 with fail;generalize w.alloc (.cells #[.bool false,Vi 0] 131)=w0 at *;have HW:Hid (∀w1,Below w0.heap.size w0 w1→Blk 131 (w1.alloc (.cells #[Vi r1,Vi r2,Vi r3,Vi r4] 161)) w.heap.size [.bool false,Vi 0]∧Blk 161 (w1.alloc (.cells #[Vi r1,Vi r2,Vi r3,Vi r4] 161)) w1.heap.size [Vi r1,Vi r2,Vi r3,Vi r4]∧Below w.heap.size w (w1.alloc (.cells #[Vi r1,Vi r2,Vi r3,Vi r4] 161))):=Zab (fun w1 hb=>⟨(HZ.out.later hb).later (Zaa _ _),Blk.new w1 _ [Vi r1,Vi r2,Vi r3,Vi r4],Zac (Zac HB.out hb) (Zaa _ _)⟩)
 go_upto_region 2 with(first
  |(go_at_call 161;refine Sb (find_any a cap l x y hl _ HR.out) fun w1 hb=>?_;rw[hfv];have HV:=Zab (HW.out w1 hb);clear hb HW))
 generalize w1.alloc (.cells #[Vi r1,Vi r2,Vi r3,Vi r4] 161)=w2 at *;generalize w1.heap.size=E at *;have q0:=(HV.out.1.cell (j:=0) rfl).1;have q1:=(HV.out.1.cell (j:=1) rfl).1;have f0:=(HV.out.1.cell (j:=0) rfl).2;have f1:=(HV.out.1.cell (j:=1) rfl).2;have p2:=(HV.out.2.1.cell (j:=2) rfl).1;have p3:=(HV.out.2.1.cell (j:=3) rfl).1;have h1:=(HV.out.2.2.setCell (p:=⟨w.heap.size,0,none⟩) (by simp) (.bool true)).setCell (p:=⟨w.heap.size,1,none⟩) (by simp) (Vi r4);have h0:=(HV.out.2.2.setCell (p:=⟨w.heap.size,0,none⟩) (by simp) (.bool false)).setCell (p:=⟨w.heap.size,1,none⟩) (by simp) (Vi 0);have H1:=Zab h1;have H0:=Zab h0;clear h0 h1
 rcases hs'.out with⟨rfl,hr3,hsm⟩|⟨rfl,hr3,hsm⟩|⟨rfl,hsm⟩
 · subst hr3;go_wp2;exact bodyPost_ret (v:=.agg #[.bool true,Vi r4]) (by simp[results,results107,go_sem,q0,q1]) rfl ⟨by first|rfl|rw[hsm],H1.out⟩
 · have hr4:(r3 != 3)=true:=by simpa using hr3
   go_wp2;exact bodyPost_ret (v:=.agg #[.bool false,Vi 0]) (by simp[results,results107,go_sem,q0,q1]) rfl ⟨by first|rfl|rw[hsm],H0.out⟩
 · go_wp2;exact bodyPost_ret (v:=.agg #[.bool false,Vi 0]) (by simp[results,results107,go_sem,q0,q1]) rfl ⟨by first|rfl|rw[hsm],H0.out⟩
theorem Zdm(a:Option Addr)(cap:Nat)(l:List Rd)(x y:Int)(hl:l.length≤1000)(w:World) (hr:Rds w a l):
 Calls prog 52 #[.slice a l.length cap,Vi x,Vi y] w fun e w'=>e=.returned (.agg #[.bool (smp l x y).1,Vi (smp l x y).2])∧Below w.heap.size w w':=by
 have HR:=Zab (hr.later (Zaa w (.cells #[.bool false,Vi 0] 131)));have HZ:Hid (Blk 131 (w.alloc (.cells #[.bool false,Vi 0] 131)) w.heap.size [.bool false,Vi 0]):=Zab (Blk.new w _ _);have HB:=Zab (Zaa w (.cells #[.bool false,Vi 0] 131));clear hr;obtain⟨r1,r2,r3,r4,b,hfv,hs⟩:=fndV_smp l x y;have hs':Hid _:=Zab hs;clear hs
 go_enter func52,ntmps52
 go_upto_region 1 with fail;generalize w.alloc (.cells #[.bool false,Vi 0] 131)=w0 at *;have HW:Hid (∀w1,Below w0.heap.size w0 w1→Blk 131 (w1.alloc (.cells #[Vi r1,Vi r2,Vi r3,Vi r4] 161)) w.heap.size [.bool false,Vi 0]∧Blk 161 (w1.alloc (.cells #[Vi r1,Vi r2,Vi r3,Vi r4] 161)) w1.heap.size [Vi r1,Vi r2,Vi r3,Vi r4]∧Below w.heap.size w (w1.alloc (.cells #[Vi r1,Vi r2,Vi r3,Vi r4] 161))):=Zab (fun w1 hb=>⟨(HZ.out.later hb).later (Zaa _ _),Blk.new w1 _ [Vi r1,Vi r2,Vi r3,Vi r4],Zac (Zac HB.out hb) (Zaa _ _)⟩)
 go_upto_region 2 with(first
  |(go_at_call 93;refine Sb (found_any a cap l x y hl _ HR.out) fun w1 hb=>?_;rw[hfv];have HV:=Zab (HW.out w1 hb);clear hb HW))
 generalize w1.alloc (.cells #[Vi r1,Vi r2,Vi r3,Vi r4] 161)=w2 at *;generalize w1.heap.size=E at *;have q0:=(HV.out.1.cell (j:=0) rfl).1;have q1:=(HV.out.1.cell (j:=1) rfl).1;have f0:=(HV.out.1.cell (j:=0) rfl).2;have f1:=(HV.out.1.cell (j:=1) rfl).2;have p2:=(HV.out.2.1.cell (j:=2) rfl).1;have p3:=(HV.out.2.1.cell (j:=3) rfl).1;have h1:=(HV.out.2.2.setCell (p:=⟨w.heap.size,0,none⟩) (by simp) (.bool true)).setCell (p:=⟨w.heap.size,1,none⟩) (by simp) (Vi r4);have h0:=(HV.out.2.2.setCell (p:=⟨w.heap.size,0,none⟩) (by simp) (.bool false)).setCell (p:=⟨w.heap.size,1,none⟩) (by simp) (Vi 0);have H1:=Zab h1;have H0:=Zab h0;clear h0 h1
 rcases hs'.out with⟨rfl,hr3,hsm⟩|⟨rfl,hr3,hsm⟩|⟨rfl,hsm⟩
 · subst hr3;go_wp2;exact bodyPost_ret (v:=.agg #[.bool true,Vi r4]) (by simp[results,results52,go_sem,q0,q1]) rfl ⟨by first|rfl|rw[hsm],H1.out⟩
 · have hr4:(r3 != 3)=true:=by simpa using hr3
   go_wp2;exact bodyPost_ret (v:=.agg #[.bool false,Vi 0]) (by simp[results,results52,go_sem,q0,q1]) rfl ⟨by first|rfl|rw[hsm],H0.out⟩
 · go_wp2;exact bodyPost_ret (v:=.agg #[.bool false,Vi 0]) (by simp[results,results52,go_sem,q0,q1]) rfl ⟨by first|rfl|rw[hsm],H0.out⟩
theorem Zdc{u:World}{B V j k:Nat}{x v:Value}(hV:B≠V)(h:u.cell? (Ad B j)=some x):(u.setCell (Ad V k) v).cell? (Ad B j)=some x:=(World.cell?_setCell_other _ _ _ _ (fun e=>hV (congrArg Addr.block e).symm)).trans h
theorem Zdn{u:World}{a:Option Addr}{l:List Rd}{V j:Nat}{v:Value}(hV:∀g,a=some (Ad g 0)→l≠[]→g≠V)(h:Rds u a l):Rds (u.setCell (Ad V j) v) a l:=by
 rcases h with h|⟨g,h,hc⟩
 · exact .inl h
 · by_cases hn:l=[]
   · exact .inl hn
   · have:=hV g h hn;exact .inr ⟨g,h,fun k hk=>⟨Zdc this (hc k hk).1,Zdc this (hc k hk).2.1,Zdc this (hc k hk).2.2.1,Zdc this (hc k hk).2.2.2⟩⟩
theorem Rds.lt{u:World}{a:Option Addr}{l:List Rd}(h:Rds u a l):∀g,a=some (Ad g 0)→l≠[]→g<u.heap.size:=by
 intro g hg hl
 rcases h with h|⟨g',h,hc⟩
 · exact absurd h hl
 · subst hg;cases h
   have h0:0<l.length:=by cases l with|nil=>exact absurd rfl hl|cons _ _=>simp
   exact World.block_lt_of_cell? u _ (hc 0 h0).1
def smL(l:List Rd)(x:Int):List Value:=[.bool (smp l x 0).1,Vi (smp l x 0).2,.bool (smp l x 1).1,Vi (smp l x 1).2,.bool (smp l x 2).1,Vi (smp l x 2).2]
theorem channels_any(B:Nat)(a:Option Addr)(cap:Nat)(l:List Rd)(x:Int)(hl:l.length≤1000)(w:World)(hc:w.cell? (Ad B 62)=some (.slice a l.length cap))(hr:Rds w a l):
 Calls prog 158 #[.pointer (some (Ad B 0)),Vi x] w fun e w'=>e=.returned (.agg (smL l x).toArray)∧Below w.heap.size w w':=by
 have HB0:Hid (Below w.heap.size w ((w.alloc (.cells #[.bool false,Vi 0,.bool false,Vi 0,.bool false,Vi 0] 185)).alloc (.cells #[.bool false,Vi 0,.bool false,Vi 0,.bool false,Vi 0] 185))):=Zab (Zac (Zaa _ _) (Zaa _ _));have HY0:Hid (Blk 185 ((w.alloc (.cells #[.bool false,Vi 0,.bool false,Vi 0,.bool false,Vi 0] 185)).alloc (.cells #[.bool false,Vi 0,.bool false,Vi 0,.bool false,Vi 0] 185)) w.heap.size [.bool false,Vi 0,.bool false,Vi 0,.bool false,Vi 0]):=Zab (Blk.later (Blk.new w _ [.bool false,Vi 0,.bool false,Vi 0,.bool false,Vi 0]) (Zaa _ _));have HI0:Hid (Blk 185 ((w.alloc (.cells #[.bool false,Vi 0,.bool false,Vi 0,.bool false,Vi 0] 185)).alloc (.cells #[.bool false,Vi 0,.bool false,Vi 0,.bool false,Vi 0] 185)) (w.heap.size+1) [.bool false,Vi 0,.bool false,Vi 0,.bool false,Vi 0]):=Zab (by have:=Blk.new (w.alloc (.cells #[.bool false,Vi 0,.bool false,Vi 0,.bool false,Vi 0] 185)) 185 [.bool false,Vi 0,.bool false,Vi 0,.bool false,Vi 0];rw[World.size_alloc] at this;exact this);have HR0:=Zab (hr.later HB0.out);have hc0:=cell_later HB0.out hc;have hBl:B<w.heap.size:=World.block_lt_of_cell? w _ hc;have HQ:Hid (B≠w.heap.size+1):=Zab (by omega);have HP:Hid (∀g,a=some (Ad g 0)→l≠[]→g≠w.heap.size+1):=Zab (fun g hg hn=>by have:=hr.lt g hg hn;omega);have HN:Hid (w.heap.size≠w.heap.size+1):=Zab (by omega);have HM:Hid (w.heap.size≤w.heap.size+1):=Zab (by omega);clear hr hc hBl
 go_enter func158,ntmps158
 go_upto_region 2 with fail;generalize ((w.alloc (.cells #[.bool false,Vi 0,.bool false,Vi 0,.bool false,Vi 0] 185)).alloc (.cells #[.bool false,Vi 0,.bool false,Vi 0,.bool false,Vi 0] 185))=w0 at *;generalize w.heap.size+1=I at *;go_wp2_with fail;refine wp_loop_rounds 4 ?_;rw[rounds_succ]
 go_wp2_with (first
  |(go_at_call 107;refine Sb (Zhh B a cap l x 0 hl _ hc0 HR0.out) fun u0 hb=>?_;have HBu:=Zab (Zac HB0.out hb);have HYu:=Zab (HY0.out.later hb);have HIu:=Zab (HI0.out.later hb);have HRu:=Zab (HR0.out.later hb);have hcu:=cell_later hb hc0;have q0:=(HIu.out.cell (j:=0) rfl).1;have q1:=(HIu.out.cell (j:=1) rfl).1;have f0:=(HIu.out.cell (j:=0) rfl).2;have f1:=(HIu.out.cell (j:=1) rfl).2;clear hb HR0 HI0 HY0 HB0 hc0))
 have HI1:Hid (Blk 185 ((u0.setCell (Ad I 0) (.bool (smp l x 0).1)).setCell (Ad I 1) (Vi (smp l x 0).2)) I [.bool (smp l x 0).1,Vi (smp l x 0).2,.bool false,Vi 0,.bool false,Vi 0]):=Zab ((HIu.out.set 0 (.bool (smp l x 0).1)).set 1 (Vi (smp l x 0).2));have HY1:=Zab ((HYu.out.far (V:=I) HN.out 0 (.bool (smp l x 0).1)).far (V:=I) HN.out 1 (Vi (smp l x 0).2));have HB1:=Zab ((HBu.out.setCell (p:=⟨I,0,none⟩) HM.out (.bool (smp l x 0).1)).setCell (p:=⟨I,1,none⟩) HM.out (Vi (smp l x 0).2));have hc1:((u0.setCell (Ad I 0) (.bool (smp l x 0).1)).setCell (Ad I 1) (Vi (smp l x 0).2)).cell? (Ad B 62)=some (.slice a l.length cap):=Zdc HQ.out (Zdc HQ.out hcu);have HR1:=Zab (Zdn HP.out (Zdn HP.out HRu.out (j:=0) (v:=.bool (smp l x 0).1)) (j:=1) (v:=Vi (smp l x 0).2));clear q0 q1 f0 f1 hcu HIu HYu HBu HRu;generalize (u0.setCell (Ad I 0) (.bool (smp l x 0).1)).setCell (Ad I 1) (Vi (smp l x 0).2)=w1 at *;rw[rounds_succ]
 go_wp2_with (first
  |(go_at_call 107;refine Sb (Zhh B a cap l x 1 hl _ hc1 HR1.out) fun u1 hb=>?_;have HBu:=Zab (Zac HB1.out hb);have HYu:=Zab (HY1.out.later hb);have HIu:=Zab (HI1.out.later hb);have HRu:=Zab (HR1.out.later hb);have hcu:=cell_later hb hc1;have q0:=(HIu.out.cell (j:=2) rfl).1;have q1:=(HIu.out.cell (j:=3) rfl).1;have f0:=(HIu.out.cell (j:=2) rfl).2;have f1:=(HIu.out.cell (j:=3) rfl).2;clear hb HR1 HI1 HY1 HB1 hc1))
 have HI2:Hid (Blk 185 ((u1.setCell (Ad I 2) (.bool (smp l x 1).1)).setCell (Ad I 3) (Vi (smp l x 1).2)) I [.bool (smp l x 0).1,Vi (smp l x 0).2,.bool (smp l x 1).1,Vi (smp l x 1).2,.bool false,Vi 0]):=Zab ((HIu.out.set 2 (.bool (smp l x 1).1)).set 3 (Vi (smp l x 1).2));have HY2:=Zab ((HYu.out.far (V:=I) HN.out 2 (.bool (smp l x 1).1)).far (V:=I) HN.out 3 (Vi (smp l x 1).2));have HB2:=Zab ((HBu.out.setCell (p:=⟨I,2,none⟩) HM.out (.bool (smp l x 1).1)).setCell (p:=⟨I,3,none⟩) HM.out (Vi (smp l x 1).2));have hc2:((u1.setCell (Ad I 2) (.bool (smp l x 1).1)).setCell (Ad I 3) (Vi (smp l x 1).2)).cell? (Ad B 62)=some (.slice a l.length cap):=Zdc HQ.out (Zdc HQ.out hcu);have HR2:=Zab (Zdn HP.out (Zdn HP.out HRu.out (j:=2) (v:=.bool (smp l x 1).1)) (j:=3) (v:=Vi (smp l x 1).2));clear q0 q1 f0 f1 hcu HIu HYu HBu HRu;generalize (u1.setCell (Ad I 2) (.bool (smp l x 1).1)).setCell (Ad I 3) (Vi (smp l x 1).2)=w2 at *;rw[rounds_succ]
 go_wp2_with (first
  |(go_at_call 107;refine Sb (Zhh B a cap l x 2 hl _ hc2 HR2.out) fun u2 hb=>?_;have HBu:=Zab (Zac HB2.out hb);have HYu:=Zab (HY2.out.later hb);have HIu:=Zab (HI2.out.later hb);have HRu:=Zab (HR2.out.later hb);have hcu:=cell_later hb hc2;have q0:=(HIu.out.cell (j:=4) rfl).1;have q1:=(HIu.out.cell (j:=5) rfl).1;have f0:=(HIu.out.cell (j:=4) rfl).2;have f1:=(HIu.out.cell (j:=5) rfl).2;clear hb HR2 HI2 HY2 HB2 hc2))
 have HI3:Hid (Blk 185 ((u2.setCell (Ad I 4) (.bool (smp l x 2).1)).setCell (Ad I 5) (Vi (smp l x 2).2)) I [.bool (smp l x 0).1,Vi (smp l x 0).2,.bool (smp l x 1).1,Vi (smp l x 1).2,.bool (smp l x 2).1,Vi (smp l x 2).2]):=Zab ((HIu.out.set 4 (.bool (smp l x 2).1)).set 5 (Vi (smp l x 2).2));have HY3:=Zab ((HYu.out.far (V:=I) HN.out 4 (.bool (smp l x 2).1)).far (V:=I) HN.out 5 (Vi (smp l x 2).2));have HB3:=Zab ((HBu.out.setCell (p:=⟨I,4,none⟩) HM.out (.bool (smp l x 2).1)).setCell (p:=⟨I,5,none⟩) HM.out (Vi (smp l x 2).2));have hc3:((u2.setCell (Ad I 4) (.bool (smp l x 2).1)).setCell (Ad I 5) (Vi (smp l x 2).2)).cell? (Ad B 62)=some (.slice a l.length cap):=Zdc HQ.out (Zdc HQ.out hcu);have HR3:=Zab (Zdn HP.out (Zdn HP.out HRu.out (j:=4) (v:=.bool (smp l x 2).1)) (j:=5) (v:=Vi (smp l x 2).2));clear q0 q1 f0 f1 hcu HIu HYu HBu HRu;generalize (u2.setCell (Ad I 4) (.bool (smp l x 2).1)).setCell (Ad I 5) (Vi (smp l x 2).2)=w3 at *;rw[rounds_succ];have q0:=(HI3.out.cell (j:=0) rfl).1;have r0:=(HY3.out.cell (j:=0) rfl).1;have f0:=(HY3.out.cell (j:=0) rfl).2;have q1:=(HI3.out.cell (j:=1) rfl).1;have r1:=(HY3.out.cell (j:=1) rfl).1;have f1:=(HY3.out.cell (j:=1) rfl).2;have q2:=(HI3.out.cell (j:=2) rfl).1;have r2:=(HY3.out.cell (j:=2) rfl).1;have f2:=(HY3.out.cell (j:=2) rfl).2;have q3:=(HI3.out.cell (j:=3) rfl).1;have r3:=(HY3.out.cell (j:=3) rfl).1;have f3:=(HY3.out.cell (j:=3) rfl).2;have q4:=(HI3.out.cell (j:=4) rfl).1;have r4:=(HY3.out.cell (j:=4) rfl).1;have f4:=(HY3.out.cell (j:=4) rfl).2;have q5:=(HI3.out.cell (j:=5) rfl).1;have r5:=(HY3.out.cell (j:=5) rfl).1;have f5:=(HY3.out.cell (j:=5) rfl).2;go_wp2_with fail;exact bodyPost_ret (v:=.agg (smL l x).toArray) (by simp[results,results158,go_sem,smL,r0,r1,r2,r3,r4,r5]) rfl ⟨rfl,Zag [.bool (smp l x 0).1,Vi (smp l x 0).2,.bool (smp l x 1).1,Vi (smp l x 1).2,.bool (smp l x 2).1,Vi (smp l x 2).2] 0 w3 HB3.out (b:=w.heap.size) (Nat.le_refl _)⟩
theorem B2.set{w:World}{B C q:Nat}{a b v:Value}(h:B2 w B a b)(hc:C≠B):B2 (w.setCell (Ad C q) v) B a b:=⟨Zad h.1 (Zau hc),Zad h.2 (Zau hc)⟩
theorem B3.set{w:World}{B C q:Nat}{a b c v:Value}(h:B3 w B a b c)(hc:C≠B):B3 (w.setCell (Ad C q) v) B a b c:=⟨Zad h.1 (Zau hc),Zad h.2.1 (Zau hc),Zad h.2.2 (Zau hc)⟩
theorem B4.set{w:World}{B C q:Nat}{a b c d v:Value}(h:B4 w B a b c d)(hc:C≠B):B4 (w.setCell (Ad C q) v) B a b c d:=⟨Zad h.1 (Zau hc),Zad h.2.1 (Zau hc),Zad h.2.2.1 (Zau hc),Zad h.2.2.2 (Zau hc)⟩
theorem B2.put{w:World}{B:Nat}{a b:Value}(h:B2 w B a b)(p q:Value):B2 ((w.setCell (Ad B 0) p).setCell (Ad B 1) q) B p q:=
 ⟨Zad (Zao h.1) (Zai (by decide)),Zao (Zad h.2 (Zai (by decide)))⟩
theorem B3.put{w:World}{B:Nat}{a b c:Value}(h:B3 w B a b c)(p q r:Value):B3 (((w.setCell (Ad B 0) p).setCell (Ad B 1) q).setCell (Ad B 2) r) B p q r:=
 ⟨Zad (Zad (Zao h.1) (Zai (by decide))) (Zai (by decide)),Zad (Zao (Zad h.2.1 (Zai (by decide)))) (Zai (by decide)),Zao (Zad (Zad h.2.2 (Zai (by decide))) (Zai (by decide)))⟩
theorem B3.put0{w:World}{B:Nat}{a b c:Value}(h:B3 w B a b c)(p:Value):B3 (w.setCell (Ad B 0) p) B p b c:=
 ⟨Zao h.1,Zad h.2.1 (Zai (by decide)),Zad h.2.2 (Zai (by decide))⟩
theorem RS.set{w0 w:World}{T R S C i b:Int}{o:Bool}{A q:Nat}{v:Value}(h:RS w0 w T R S C i b o)(hA:w0.heap.size+1<A):RS w0 (w.setCell (Ad A q) v) T R S C i b o:=
 ⟨h.1.set (by omega),h.2.1.set (by omega),h.2.2.setCell (by simp;omega) _⟩
def AS(w0 w:World)(P:Nat)(T R S C i b:Int)(o y:Bool)(z:Int)(lo hi mi mb xi xb:Int)(mo xo:Bool):Prop:=
 RS w0 w T R S C i b o∧B2 w (w0.heap.size+1+1) (.bool y) (Vi z)∧(B2 w P (Vi lo) (Vi hi)∧FrA w P 2)∧(B3 w (P+1) (Vi mi) (Vi mb) (.bool mo)∧FrA w (P+1) 3)∧(B3 w (P+1+1) (Vi xi) (Vi xb) (.bool xo)∧FrA w (P+1+1) 3)∧w0.heap.size+1+1<P
theorem AS.later{w0 w w':World}{P:Nat}{T R S C i b:Int}{o y:Bool}{z:Int}{lo hi mi mb xi xb:Int}{mo xo:Bool}(h:AS w0 w P T R S C i b o y z lo hi mi mb xi xb mo xo)(hb:Below w.heap.size w w'):AS w0 w' P T R S C i b o y z lo hi mi mb xi xb mo xo:=
 ⟨h.1.later hb,h.2.1.later hb,⟨h.2.2.1.1.later hb,h.2.2.1.2.later hb⟩,⟨h.2.2.2.1.1.later hb,h.2.2.2.1.2.later hb⟩,⟨h.2.2.2.2.1.1.later hb,h.2.2.2.2.1.2.later hb⟩,h.2.2.2.2.2⟩
def stW(w:World)(P:Nat)(lo hi i b xi xb:Int)(o xo:Bool):World:=
 (((((((w.setCell (Ad P 0) (Vi lo)).setCell (Ad P 1) (Vi hi)).setCell (Ad (P+1) 0) (Vi i)).setCell (Ad (P+1) 1) (Vi b)).setCell (Ad (P+1) 2) (.bool o)).setCell (Ad (P+1+1) 0) (Vi xi)).setCell (Ad (P+1+1) 1) (Vi xb)).setCell (Ad (P+1+1) 2) (.bool xo)
theorem AS.store{w0 w:World}{P:Nat}{T R S C i b:Int}{o y:Bool}{z:Int}{lo hi mi mb xi xb:Int}{mo xo:Bool}(h:AS w0 w P T R S C i b o y z lo hi mi mb xi xb mo xo)(lo' hi' xi' xb':Int)(xo':Bool):AS w0 (stW w P lo' hi' i b xi' xb' o xo') P T R S C i b o y z lo' hi' i b xi' xb' o xo':=by
 obtain⟨h1,h2,⟨h3,h4⟩,⟨h5,h6⟩,⟨h7,h8⟩,h9⟩:=h
 unfold stW
 refine⟨?_,?_,⟨?_,?_⟩,⟨?_,?_⟩,⟨?_,?_⟩,h9⟩
 · exact(((((((h1.set (by omega)).set (by omega)).set (by omega)).set (by omega)).set (by omega)).set (by omega)).set (by omega)).set (by omega)
 · exact(((((((h2.set (by omega)).set (by omega)).set (by omega)).set (by omega)).set (by omega)).set (by omega)).set (by omega)).set (by omega)
 · exact((((((h3.put _ _).set (by omega)).set (by omega)).set (by omega)).set (by omega)).set (by omega)).set (by omega)
 · exact h4.set.set.set.set.set.set.set.set
 · exact(((((h5.set (by omega)).set (by omega)).put _ _ _).set (by omega)).set (by omega)).set (by omega)
 · exact h6.set.set.set.set.set.set.set.set
 · exact(((((h7.set (by omega)).set (by omega)).set (by omega)).set (by omega)).set (by omega)).put _ _ _
 · exact h8.set.set.set.set.set.set.set.set
theorem AS.move{w0 w:World}{P:Nat}{T R S C i b:Int}{o y:Bool}{z:Int}{lo hi mi mb xi xb:Int}{mo xo:Bool}(h:AS w0 w P T R S C i b o y z lo hi mi mb xi xb mo xo)(v:Int):AS w0 (w.setCell (Ad (P+1) 0) (Vi v)) P T R S C i b o y z lo hi v mb xi xb mo xo:=by
 obtain⟨h1,h2,⟨h3,h4⟩,⟨h5,h6⟩,⟨h7,h8⟩,h9⟩:=h;exact⟨h1.set (by omega),h2.set (by omega),⟨h3.set (by omega),h4.set⟩,⟨h5.put0 _,h6.set⟩,⟨h7.set (by omega),h8.set⟩,h9⟩
theorem AS.new{w0 w1:World}{T R S C i b:Int}{o y:Bool}{z:Int}(h:RS w0 w1 T R S C i b o)(h':B2 w1 (w0.heap.size+1+1) (.bool y) (Vi z)):AS w0 (((w1.alloc (.cells #[Vi 0,Vi 0] 105)).alloc (.cells #[Vi 0,Vi 0,.bool false] 116)).alloc (.cells #[Vi 0,Vi 0,.bool false] 116)) w1.heap.size T R S C i b o y z 0 0 0 0 0 0 false false:=by
 have hl:=World.block_lt_of_cell? w1 ⟨w0.heap.size+1+1,0,none⟩ h'.1;have e1:=size_alloc w1 (.cells #[Vi 0,Vi 0] 105);have e2:=size_alloc (w1.alloc (.cells #[Vi 0,Vi 0] 105)) (.cells #[Vi 0,Vi 0,.bool false] 116);refine⟨((h.later (Zaa _ _)).later (Zaa _ _)).later (Zaa _ _),((h'.later (Zaa _ _)).later (Zaa _ _)).later (Zaa _ _),⟨((B2.new _ _ _ _).later (Zaa _ _)).later (Zaa _ _),(FrA.new.later (Zaa _ _)).later (Zaa _ _)⟩,⟨?_,?_⟩,⟨?_,?_⟩,hl⟩
 · rw[←e1];exact(B3.new _ _ _ _ _).later (Zaa _ _)
 · rw[←e1];exact FrA.new.later (Zaa _ _)
 · rw[←e1,←e2];exact B3.new _ _ _ _ _
 · rw[←e1,←e2];exact FrA.new
theorem lo_le_hi{T R S C i b:Int}{o:Bool}(h:svE T R S C i b o=0):loR T R i o≤hiR T R i o:=by
 obtain⟨hr,hs⟩:=Zhf h;have a:=Zat hr;have c:=Zbd hs
 unfold loR hiR mxA mnA
 cases o
 · simp only[Bool.false_eq_true,if_false];omega
 · simp
abbrev Sv:=Int×Int×Bool
def svD:Sv:=(0,0,false)
def svAt(l:List Sv)(k:Nat):Sv:=l.getD k svD
def tk(T R:Int)(s:Sv)(v:Int):Int:=Zal v (loR T R s.1 s.2.2) (hiR T R s.1 s.2.2)
def totU(T R:Int)(l:List Sv)(v:Int):Nat→Int
 |0=>0
 |k+1=>totU T R l v k+tk T R (svAt l k) v
def tot(T R:Int)(l:List Sv)(v:Int):Int:=totU T R l v l.length
def AllOk(T R S C:Int)(l:List Sv):Prop:=arB T R S C=true∧∀k,k<l.length→svB T C (svAt l k).1 (svAt l k).2.1 (svAt l k).2.2=true
theorem AllOk.le{T R S C:Int}{l:List Sv}(h:AllOk T R S C l){k:Nat}(hk:k<l.length):loR T R (svAt l k).1 (svAt l k).2.2≤hiR T R (svAt l k).1 (svAt l k).2.2:=lo_le_hi (svE_mk h.1 (h.2 k hk))
theorem reach_bd{T R S C i b:Int}{o:Bool}(hr:arB T R S C=true)(hs:svB T C i b o=true):-1000≤loR T R i o∧loR T R i o≤1000∧-1000≤hiR T R i o∧hiR T R i o≤1000:=by
 have a:=Zat hr;have c:=Zbd hs
 unfold loR hiR mxA mnA
 cases o
 · simp only[Bool.false_eq_true,if_false];omega
 · simp
theorem Zcd{v lo hi:Int}(h:lo≤hi):lo≤Zal v lo hi∧Zal v lo hi≤hi:=by
 unfold Zal;split
 · omega
 · split
   · omega
   · split<;>omega
theorem clip_mono{v u lo hi:Int}(h:v≤u):Zal v lo hi≤Zal u lo hi:=by
 unfold Zal;split<;>(try split)<;>(try split)<;>(try split)<;>(try split)<;>(try split)<;>omega
theorem tk_bd{T R S C:Int}{l:List Sv}(h:AllOk T R S C l){k:Nat}(hk:k<l.length)(v:Int):-1000≤tk T R (svAt l k) v∧tk T R (svAt l k) v≤1000:=by
 have a:=Zcd (v:=v) (h.le hk);have c:=reach_bd h.1 (h.2 k hk)
 unfold tk;omega
theorem tk_mono(T R:Int)(s:Sv){v u:Int}(h:v≤u):tk T R s v≤tk T R s u:=clip_mono h
theorem totU_bd{T R S C:Int}{l:List Sv}(h:AllOk T R S C l)(v:Int):∀k:Nat,k≤l.length→-1000*(k:Int)≤totU T R l v k∧totU T R l v k≤1000*(k:Int)
 |0,_=>by simp[totU]
 |k+1,hk=>by
  have a:=totU_bd h v k (by omega);have c:=tk_bd h (show k<l.length by omega) v;simp only[totU];omega
theorem totU_mono(T R:Int)(l:List Sv){v u:Int}(h:v≤u):∀k:Nat,totU T R l v k≤totU T R l u k
 |0=>by simp[totU]
 |k+1=>by have a:=totU_mono T R l h k;have c:=tk_mono T R (svAt l k) h;simp only[totU];omega
theorem Zdy(T R:Int)(l:List Sv){v u:Int}(h:v≤u):tot T R l v≤tot T R l u:=totU_mono T R l h _
theorem tot_bd{T R S C:Int}{l:List Sv}(h:AllOk T R S C l)(hl:l.length≤9)(v:Int):-9000≤tot T R l v∧tot T R l v≤9000:=by
 have a:=totU_bd h v l.length (Nat.le_refl _)
 unfold tot;omega
def IsLev(T R:Int)(l:List Sv)(s v:Int):Prop:=-T≤v∧v≤T∧tot T R l v≤s∧(v<T→s<tot T R l (v+1))
theorem IsLev.unique{T R:Int}{l:List Sv}{s v u:Int}(h:IsLev T R l s v)(g:IsLev T R l s u):v=u:=by
 obtain⟨h1,h2,h3,h4⟩:=h;obtain⟨g1,g2,g3,g4⟩:=g
 rcases Int.lt_trichotomy v u with h|h|h
 · have:=h4 (by omega);have:=Zdy T R l (show v+1≤u by omega);omega
 · exact h
 · have:=g4 (by omega);have:=Zdy T R l (show u+1≤v by omega);omega
def lfU(T R:Int)(l:List Sv)(v s:Int):Nat→Int
 |0=>s
 |k+1=>if 0<lfU T R l v s k∧tk T R (svAt l k) v<tk T R (svAt l k) (v+1) then lfU T R l v s k-1 else lfU T R l v s k
def dlI(T R:Int)(l:List Sv)(v s:Int)(k:Nat):Int:=if 0<lfU T R l v s k∧tk T R (svAt l k) v<tk T R (svAt l k) (v+1) then tk T R (svAt l k) v+1 else tk T R (svAt l k) v
def dlU(T R:Int)(l:List Sv)(v s:Int):Nat→List Int
 |0=>[]
 |k+1=>dlU T R l v s k++[dlI T R l v s k]
theorem Zcn(T R:Int)(l:List Sv)(v s:Int):∀k:Nat,(dlU T R l v s k).length=k
 |0=>rfl
 |k+1=>by simp[dlU,Zcn T R l v s k]
theorem lfU_bd(T R:Int)(l:List Sv)(v s:Int):∀k:Nat,s-k≤lfU T R l v s k∧lfU T R l v s k≤s
 |0=>by simp[lfU]
 |k+1=>by have:=lfU_bd T R l v s k;simp only[lfU];split<;>omega
def ruleB(m c:Int):Bool:=(decide (0≤m)&&decide (m≤1000000))&&(decide (1≤c)&&decide (c≤10))
theorem ruleB_true{m c:Int}(h:ruleB m c=true):(0≤m∧m≤1000000)∧1≤c∧c≤10:=by simp[ruleB] at h;omega
theorem ruleB_false{m c:Int}(h:ruleB m c=false):m<0∨1000000<m∨c<1∨10<c:=by simp[ruleB] at h;omega
def Zdh(m c:Int):Int:=if ruleB m c then 0 else 1
theorem Zgc(m c:Int)(w:World):
 Calls prog 117 #[.agg #[Vi m,Vi c]] w fun e w'=>e=.returned (errV (Zdh m c))∧Below w.heap.size w w':=by
 unfold Zdh
 by_cases h:ruleB m c=true
 · rw[if_pos h,Zar];obtain⟨⟨h1,h2⟩,h3,h4⟩:=ruleB_true h;clear h
   go_enter func117,ntmps117
   go_wp2;go_ret;exact⟨rfl,Zaa _ _⟩
 · rw[if_neg h,Zbg (by decide)];have h':=ruleB_false (by simpa using h);clear h
   by_cases g1:m<0
   · clear h'
     go_enter func117,ntmps117
     go_wp2;go_ret;exact⟨rfl,Zaa _ _⟩
   · by_cases g2:1000000<m
     · clear h'
       go_enter func117,ntmps117
       go_wp2;go_ret;exact⟨rfl,Zaa _ _⟩
     · by_cases g3:c<1
       · clear h'
         go_enter func117,ntmps117
         go_wp2;go_ret;exact⟨rfl,Zaa _ _⟩
       · have g4:10<c:=by omega
         clear h'
         go_enter func117,ntmps117
         go_wp2;go_ret;exact⟨rfl,Zaa _ _⟩
theorem ruleMay_any(m c:Int)(w:World):
 Calls prog 87 #[.agg #[Vi m,Vi c]] w fun e w'=>e=.returned (Vi (Zdh m c))∧Below w.heap.size w w':=by
 have f1:=Zdp m 0 1000000;have f2:=Zdp c 1 10
 unfold Zdh ruleB
 generalize (decide (0≤m)&&decide (m≤1000000))=x1 at *;generalize (decide (1≤c)&&decide (c≤10))=x2 at*
 rcases(show x1=false∨(x1=true∧x2=false)∨(x1=true∧x2=true) by cases x1<;>cases x2<;>simp) with rfl|⟨rfl,rfl⟩|⟨rfl,rfl⟩
 all_goals
  go_enter func87,ntmps87
  go_wp2_with (first|((first|go_at_call_of 38 (Vi m)|go_at_call_of 38 (Value.int .i64 m));refine(f1 _).mono ?_;rintro e w' ⟨rfl,rfl⟩)|((first|go_at_call_of 38 (Vi c)|go_at_call_of 38 (Value.int .i64 c));refine(f2 _).mono ?_;rintro e w' ⟨rfl,rfl⟩)|(go_at_call 14;refine(Zcr _ _ _).mono ?_;rintro e w' ⟨rfl,rfl⟩));go_ret;exact⟨rfl,Zaa _ _⟩
theorem beyond_any(x:Int)(w:World):
 Calls prog 187 #[Vi x] w fun e w'=>e=.returned (.bool (!Zba x))∧w'=w:=by
 by_cases g1:1000000<x
 · have e:Zba x=false:=by simp[Zba];omega
   rw[e]
   go_enter func187,ntmps187
   go_wp2;go_ret;exact⟨rfl,rfl⟩
 · by_cases g2:x< -1000000
   · have e:Zba x=false:=by simp[Zba];omega
     rw[e]
     go_enter func187,ntmps187
     go_wp2;go_ret;exact⟨by simp,rfl⟩
   · have e:Zba x=true:=by simp[Zba];omega
     rw[e]
     go_enter func187,ntmps187
     go_wp2;go_ret;exact⟨by simp,rfl⟩
def fineB(t:Bool)(s v m:Int):Bool:=t&&(decide (v-m≤s)&&decide (s≤v+m))
theorem isFine_any(t:Bool)(s v m:Int)(hv0:-2000000≤v)(hv1:v≤2000000)(hm0:0≤m)(hm1:m≤1000000)(w:World):
 Calls prog 214 #[.agg #[.bool t,Vi s],Vi v,Vi m] w fun e w'=>e=.returned (.bool (fineB t s v m))∧Below w.heap.size w w':=by
 unfold fineB
 cases t
 · go_enter func214,ntmps214
   go_wp2;go_ret;exact⟨rfl,Zaa _ _⟩
 · by_cases g1:v-m≤s
   · by_cases g2:s≤v+m
     · rw[decide_eq_true g1,decide_eq_true g2]
       go_enter func214,ntmps214
       go_wp2;go_ret;exact⟨by simp,Zaa _ _⟩
     · rw[decide_eq_true g1,decide_eq_false g2]
       go_enter func214,ntmps214
       go_wp2;go_ret;exact⟨by simp,Zaa _ _⟩
   · rw[decide_eq_false g1]
     go_enter func214,ntmps214
     go_wp2;go_ret;exact⟨by simp,Zaa _ _⟩
def badI(b:Int)(f:Bool):Int:=if f then 0 else if b+1≤10 then b+1 else 10
def outB(b:Int)(f:Bool)(c:Int):Bool:=!f&&decide (c≤badI b f)
theorem judge_any(b c:Int)(f:Bool)(h0:0≤b)(h1:b≤10)(w:World):
 Calls prog 213 #[Vi b,.bool f,Vi c] w fun e w'=>e=.returned (.tuple #[Vi (badI b f),.bool (outB b f c)])∧w'=w:=by
 unfold outB badI
 cases f
 · by_cases g1:b+1≤10
   · rw[if_neg (by simp),if_pos g1]
     go_enter func213,ntmps213
     go_wp2;go_ret2;exact⟨by first|(simp;done)|(simp;omega),rfl⟩
   · rw[if_neg (by simp),if_neg g1]
     go_enter func213,ntmps213
     go_wp2;go_ret2;exact⟨by first|(simp;done)|(simp;omega),rfl⟩
 · go_enter func213,ntmps213
   go_wp2;go_ret2;exact⟨rfl,rfl⟩
def gb(x:Int):Bool:=decide (0≤x)&&decide (x≤10)
theorem gb_true{x:Int}(h:gb x=true):0≤x∧x≤10:=by simp[gb] at h;omega
def okU(b:Nat→Int):Nat→Bool
 |0=>true
 |k+1=>okU b k&&gb (b k)
theorem okU_false{b:Nat→Int}{k:Nat}(hk:k<3)(h:gb (b k)=false):okU b 3=false:=by
 rcases(show k=0∨k=1∨k=2 by omega) with rfl|rfl|rfl<;>simp[okU,h]
theorem okU_true{b:Nat→Int}(h:okU b 3=true):∀k,k<3→0≤b k∧b k≤10:=by
 intro k hk;simp only[okU,Bool.true_and,Bool.and_eq_true] at h
 rcases(show k=0∨k=1∨k=2 by omega) with rfl|rfl|rfl
 · exact gb_true h.1.1
 · exact gb_true h.1.2
 · exact gb_true h.2
def Zcf(b:Nat→Int)(l:Int):Int:=if okU b 3&&Zba l then 0 else 3
theorem idxI(b:Nat→Int)(k:Nat)(h:k<3)(w:World):(Instr.index 30 (.agg #[Vi (b 0),Vi (b 1),Vi (b 2)]) (Vi k)).run prog w=.ok (Vi (b k)) w:=by
 rcases(show k=0∨k=1∨k=2 by omega) with rfl|rfl|rfl<;>kernel_rfl
theorem idxB(o:Nat→Bool)(k:Nat)(h:k<3)(w:World):(Instr.index 31 (.agg #[.bool (o 0),.bool (o 1),.bool (o 2)]) (Vi k)).run prog w=.ok (.bool (o k)) w:=by
 rcases(show k=0∨k=1∨k=2 by omega) with rfl|rfl|rfl<;>kernel_rfl
theorem idxS(t:Nat→Bool)(s:Nat→Int)(k:Nat)(h:k<3)(w:World):(Instr.index 185 (.agg #[.bool (t 0),Vi (s 0),.bool (t 1),Vi (s 1),.bool (t 2),Vi (s 2)]) (Vi k)).run prog w=.ok (.agg #[.bool (t k),Vi (s k)]) w:=by
 rcases(show k=0∨k=1∨k=2 by omega) with rfl|rfl|rfl<;>kernel_rfl
theorem Zjc(b:Nat→Int)(o:Nat→Bool)(l:Int)(w:World):
 Calls prog 121 #[.agg #[Vi (b 0),Vi (b 1),Vi (b 2),.bool (o 0),.bool (o 1),.bool (o 2),Vi l]] w fun e w'=>e=.returned (errV (Zcf b l))∧Below w.heap.size w w':=by
 have HW:Hid (Zcf b l=if okU b 3&&Zba l then 0 else 3):=rfl
 go_enter func121,ntmps121
 go_wp2
 go_loop [7] (fun i=>∃k:Nat,k≤3∧i=Vi k∧Hid (okU b k=true)) (fun i=>3-(intOf i).toNat)
 case atStart=>exact⟨0,by omega,rfl,rfl⟩
 case round=>
  obtain⟨k,hk,rfl,hok⟩:=hrel
  by_cases hlt:k<3
  · have hix:=idxI b k hlt
    by_cases hg:gb (b k)=true
    · have HS:Hid (okU b (k+1)=true):=by show(okU b k&&gb (b k))=true;rw[hok.out,hg];rfl
      obtain⟨g0,g1⟩:=gb_true hg;clear hg;generalize b k=z at *;go_wp2
      go_round
      case rel=>exact⟨k+1,by omega,by go_num,HS⟩
      case measure=>simp[intOf];omega
    · have HS:Hid (okU b 3=false):=okU_false hlt (by simpa using hg)
      have hg':b k<0∨10<b k:=by simp[gb] at hg;omega
      clear hg;generalize b k=z at*
      rcases hg' with g|g
      · go_wp2;go_ret;exact⟨by rw[HW.out,HS.out];rfl,Zaa _ _⟩
      · go_wp2;go_ret;exact⟨by rw[HW.out,HS.out];rfl,Zaa _ _⟩
  · have e:k=3:=by omega
    subst e;have hby:=beyond_any l
    have HL:Hid (Zcf b l=if Zba l then 0 else 3):=by show Zcf b l=_;rw[HW.out,hok.out,Bool.true_and]
    generalize Zba l=x at*
    cases x
    · go_wp2_with (go_at_call 187;refine Sm (hby _) ?_);go_ret;exact⟨by rw[HL.out];rfl,Zaa _ _⟩
    · go_wp2_with (go_at_call 187;refine Sm (hby _) ?_);go_ret;exact⟨by rw[HL.out];rfl,Zaa _ _⟩
theorem bankMay_any(b:Nat→Int)(o:Nat→Bool)(l:Int)(w:World):
 Calls prog 42 #[.agg #[Vi (b 0),Vi (b 1),Vi (b 2),.bool (o 0),.bool (o 1),.bool (o 2),Vi l]] w fun e w'=>e=.returned (Vi (Zcf b l))∧Below w.heap.size w w':=by
 have hl:=Zgf l
 have HW:Hid (Zcf b l=if(Zba l&&okU b 3)=true then 0 else 3):=by show Zcf b l=_;rw[Zcf,Bool.and_comm]
 generalize Zba l=y at*
 have hc:∀k,k<3→(w.alloc (.cells #[Vi (b 0),Vi (b 1),Vi (b 2),.bool (o 0),.bool (o 1),.bool (o 2),Vi l] 33)).cell? (Ad w.heap.size k)=some (Vi (b k)):=by
  intro k hk
  rcases(show k=0∨k=1∨k=2 by omega) with rfl|rfl|rfl<;>simp[go_sem]
 go_enter func42,ntmps42
 have HC:Hid _:=hc;clear hc
 go_wp2_with (go_at_call 38;refine Sm (hl _) ?_)
 go_loop [3,4] (fun f i=>∃k:Nat,k≤3∧i=Vi k∧f=.bool (y&&okU b k)) (fun f i=>3-(intOf i).toNat)
 case atStart=>exact⟨0,by omega,rfl,by simp[okU]⟩
 case round=>
  obtain⟨k,hk,rfl,rfl⟩:=hrel
  by_cases hlt:k<3
  · have hcell:=HC.out k hlt
    have HS:Hid ((y&&okU b (k+1))=(y&&okU b k&&gb (b k))):=by show(y&&(okU b k&&gb (b k)))=_;rw[Bool.and_assoc]
    have hb:∀w,Calls prog 38 #[Vi (b k),Vi 0,Vi 10] w fun e w'=>e=.returned (.bool (gb (b k)))∧w'=w:=Zdp (b k) 0 10;generalize (y&&okU b k)=f at *;generalize gb (b k)=g at*
    cases f
    · go_wp2
      go_round
      case rel=>exact⟨k+1,by omega,by go_num,by rw[HS.out];rfl⟩
      case measure=>simp[intOf];omega
    · generalize b k=z at*
      go_wp2_with (go_at_call 38;refine Sm (hb _) ?_)
      go_round
      case rel=>exact⟨k+1,by omega,by go_num,by rw[HS.out];rfl⟩
      case measure=>simp[intOf];omega
  · have e:k=3:=by omega
    subst e;generalize (y&&okU b 3)=f at*
    cases f
    · go_wp2_with (go_at_call 14;refine Sm (Zcr _ _ _) ?_);go_ret;exact⟨by rw[HW.out];rfl,Zaa _ _⟩
    · go_wp2_with (go_at_call 14;refine Sm (Zcr _ _ _) ?_);go_ret;exact⟨by rw[HW.out];rfl,Zaa _ _⟩
def Zdi(o:Nat→Bool):Nat→Int
 |0=>0
 |k+1=>Zdi o k+if o k then 0 else 1
theorem leftU_bd(o:Nat→Bool):∀k:Nat,0≤Zdi o k∧Zdi o k≤k
 |0=>by simp[Zdi]
 |k+1=>by have:=leftU_bd o k;simp only[Zdi];split<;>omega
theorem left_any(b:Nat→Int)(o:Nat→Bool)(l:Int)(w:World):
 Calls prog 131 #[.agg #[Vi (b 0),Vi (b 1),Vi (b 2),.bool (o 0),.bool (o 1),.bool (o 2),Vi l]] w fun e w'=>e=.returned (Vi (Zdi o 3))∧Below w.heap.size w w':=by
 go_enter func131,ntmps131
 go_wp2
 go_loop [3,8] (fun n i=>∃k:Nat,k≤3∧i=Vi k∧n=Vi (Zdi o k)) (fun n i=>3-(intOf i).toNat)
 case atStart=>exact⟨0,by omega,rfl,rfl⟩
 case round=>
  obtain⟨k,hk,rfl,rfl⟩:=hrel
  by_cases hlt:k<3
  · have hix:=idxB o k hlt;have hbd:=leftU_bd o k;have HS:Hid (Zdi o (k+1)=Zdi o k+if o k then 0 else 1):=rfl;generalize Zdi o k=n at *;generalize o k=x at*
    cases x
    · go_wp2
      go_round
      case rel=>exact⟨k+1,by omega,by go_num,by rw[HS.out];rfl⟩
      case measure=>simp[intOf];omega
    · go_wp2
      go_round
      case rel=>exact⟨k+1,by omega,by go_num,by rw[HS.out];simp⟩
      case measure=>simp[intOf];omega
  · have e:k=3:=by omega
    subst e;go_wp2;go_ret;exact⟨rfl,Zaa _ _⟩
theorem channelsLeft_any(b:Nat→Int)(o:Nat→Bool)(l:Int)(w:World):
 Calls prog 50 #[.agg #[Vi (b 0),Vi (b 1),Vi (b 2),.bool (o 0),.bool (o 1),.bool (o 2),Vi l]] w fun e w'=>e=.returned (Vi (Zdi o 3))∧Below w.heap.size w w':=by
 have hc:∀k,k<3→(w.alloc (.cells #[Vi (b 0),Vi (b 1),Vi (b 2),.bool (o 0),.bool (o 1),.bool (o 2),Vi l] 33)).cell? (Ad w.heap.size (3+k))=some (.bool (o k)):=by
  intro k hk
  rcases(show k=0∨k=1∨k=2 by omega) with rfl|rfl|rfl<;>simp[go_sem]
 have HC:Hid _:=hc;clear hc
 go_enter func50,ntmps50
 go_wp2
 go_loop [3,4] (fun n i=>∃k:Nat,k≤3∧i=Vi k∧n=Vi (3-(k:Int)+Zdi o k)) (fun n i=>3-(intOf i).toNat)
 case atStart=>exact⟨0,by omega,rfl,by simp[Zdi]⟩
 case round=>
  obtain⟨k,hk,rfl,rfl⟩:=hrel
  by_cases hlt:k<3
  · have hcell:=HC.out k hlt;have hbd:=leftU_bd o k;have HS:Hid (Zdi o (k+1)=Zdi o k+if o k then 0 else 1):=rfl;generalize Zdi o k=n at *;generalize o k=x at*
    cases x
    · go_wp2
      go_round
      case rel=>exact⟨k+1,by omega,by go_num,by rw[HS.out];simp only[Bool.false_eq_true,if_false];congr 1;omega⟩
      case measure=>simp[intOf];omega
    · go_wp2
      go_round
      case rel=>exact⟨k+1,by omega,by go_num,by rw[HS.out];simp only[if_true];congr 1;omega⟩
      case measure=>simp[intOf];omega
  · have e:k=3:=by omega
    subst e;go_wp2;go_ret;exact⟨by simp,Zaa _ _⟩
def BankAt(w:World)(B:Nat)(b:Nat→Int)(o:Nat→Bool)(l:Int):Prop:=
 w.cell? (Ad B 0)=some (Vi (b 0))∧w.cell? (Ad B 1)=some (Vi (b 1))∧w.cell? (Ad B 2)=some (Vi (b 2))∧w.cell? (Ad B 3)=some (.bool (o 0))∧w.cell? (Ad B 4)=some (.bool (o 1))∧w.cell? (Ad B 5)=some (.bool (o 2))∧w.cell? (Ad B 6)=some (Vi l)
def RuleAt(w:World)(B:Nat)(m c:Int):Prop:=w.cell? (Ad B 0)=some (Vi m)∧w.cell? (Ad B 1)=some (Vi c)
def SampAt(w:World)(B:Nat)(t:Nat→Bool)(s:Nat→Int):Prop:=
 w.cell? (Ad B 0)=some (.bool (t 0))∧w.cell? (Ad B 1)=some (Vi (s 0))∧w.cell? (Ad B 2)=some (.bool (t 1))∧w.cell? (Ad B 3)=some (Vi (s 1))∧w.cell? (Ad B 4)=some (.bool (t 2))∧w.cell? (Ad B 5)=some (Vi (s 2))
theorem BankAt.later{w w':World}{B:Nat}{b o l}(h:BankAt w B b o l)(hb:Below w.heap.size w w'):BankAt w' B b o l:=by
 obtain⟨h0,h1,h2,h3,h4,h5,h6⟩:=h;exact⟨cell_later hb h0,cell_later hb h1,cell_later hb h2,cell_later hb h3,cell_later hb h4,cell_later hb h5,cell_later hb h6⟩
theorem RuleAt.later{w w':World}{B:Nat}{m c}(h:RuleAt w B m c)(hb:Below w.heap.size w w'):RuleAt w' B m c:=⟨cell_later hb h.1,cell_later hb h.2⟩
theorem SampAt.later{w w':World}{B:Nat}{t s}(h:SampAt w B t s)(hb:Below w.heap.size w w'):SampAt w' B t s:=by
 obtain⟨h0,h1,h2,h3,h4,h5⟩:=h;exact⟨cell_later hb h0,cell_later hb h1,cell_later hb h2,cell_later hb h3,cell_later hb h4,cell_later hb h5⟩
def ArgsAt(w0 w:World)(B:Nat)(b:Nat→Int)(o:Nat→Bool)(l m c:Int)(t:Nat→Bool)(s:Nat→Int):Prop:=
 BankAt w B b o l∧RuleAt w (B+1) m c∧SampAt w (B+1+1) t s∧Below B w0 w
theorem ArgsAt.later{w0 w w':World}{B:Nat}{b o l m c t s}(h:ArgsAt w0 w B b o l m c t s)(hB:B≤w.heap.size)(hb:Below w.heap.size w w'):ArgsAt w0 w' B b o l m c t s:=
 ⟨h.1.later hb,h.2.1.later hb,h.2.2.1.later hb,h.2.2.2.trans (hb.mono hB)⟩
theorem ArgsAt.le{w0 w:World}{b o l m c t s}(h:ArgsAt w0 w w0.heap.size b o l m c t s):w0.heap.size≤w.heap.size:=h.2.2.2.size
theorem args_new(w:World)(b:Nat→Int)(o:Nat→Bool)(l m c:Int)(t:Nat→Bool)(s:Nat→Int):
 ArgsAt w (((w.alloc (.cells #[Vi (b 0),Vi (b 1),Vi (b 2),.bool (o 0),.bool (o 1),.bool (o 2),Vi l] 33)).alloc (.cells #[Vi m,Vi c] 124)).alloc (.cells #[.bool (t 0),Vi (s 0),.bool (t 1),Vi (s 1),.bool (t 2),Vi (s 2)] 185)) w.heap.size b o l m c t s:=by
 refine⟨?_,?_,?_,?_⟩
 · refine⟨?_,?_,?_,?_,?_,?_,?_⟩<;>simp[go_sem,World.cell?_alloc_past]
 · refine⟨?_,?_⟩<;>simp[go_sem,World.cell?_alloc_past]
 · refine⟨?_,?_,?_,?_,?_,?_⟩<;>simp[go_sem]
 · exact Zac (Zac (Zaa _ _) (Zaa _ _)) (Zaa _ _)
def Zgq(t:Nat→Bool)(s:Nat→Int):Nat→Bool
 |0=>true
 |k+1=>Zgq t s k&&(!t k||Zba (s k))
theorem sampU_false{t:Nat→Bool}{s:Nat→Int}{k:Nat}(hk:k<3)(h1:t k=true)(h2:Zba (s k)=false):Zgq t s 3=false:=by
 rcases(show k=0∨k=1∨k=2 by omega) with rfl|rfl|rfl<;>simp[Zgq,h1,h2]
theorem sampU_true{t:Nat→Bool}{s:Nat→Int}(h:Zgq t s 3=true):∀k,k<3→t k=true→-1000000≤s k∧s k≤1000000:=by
 intro k hk ht;simp only[Zgq,Bool.true_and,Bool.and_eq_true,Bool.or_eq_true,Bool.not_eq_true'] at h
 rcases(show k=0∨k=1∨k=2 by omega) with rfl|rfl|rfl
 · exact Zdl (h.1.1.resolve_left (by simp[ht]))
 · exact Zdl (h.1.2.resolve_left (by simp[ht]))
 · exact Zdl (h.2.resolve_left (by simp[ht]))
def Zcz(b:Nat→Int)(l m c:Int)(t:Nat→Bool)(s:Nat→Int):Int:=
 if Zdh m c=0 then(if Zcf b l=0 then(if Zgq t s 3 then 0 else 1) else Zcf b l) else Zdh m c
theorem ruleE_ne{m c:Int}(h:Zdh m c≠0):Zdh m c=1:=by unfold Zdh at *;split<;>simp_all
theorem bankE_ne{b:Nat→Int}{l:Int}(h:Zcf b l≠0):Zcf b l=3:=by unfold Zcf at *;split<;>simp_all
theorem checkStep_any(b:Nat→Int)(o:Nat→Bool)(l m c:Int)(t:Nat→Bool)(s:Nat→Int)(w:World):
 Calls prog 210 #[.agg #[Vi (b 0),Vi (b 1),Vi (b 2),.bool (o 0),.bool (o 1),.bool (o 2),Vi l],.agg #[Vi m,Vi c],.agg #[.bool (t 0),Vi (s 0),.bool (t 1),Vi (s 1),.bool (t 2),Vi (s 2)]] w
  fun e w'=>e=.returned (errV (Zcz b l m c t s))∧Below w.heap.size w w':=by
 have hr:=Zgc m c;have hk:=Zjc b o l;have HX:=args_new w b o l m c t s;have HX:=Zab HX
 by_cases e1:Zdh m c=0
 · rw[e1,Zar] at hr
   by_cases e2:Zcf b l=0
   · rw[e2,Zar] at hk
     have HE:Hid (Zcz b l m c t s=if Zgq t s 3 then 0 else 1):=by show Zcz b l m c t s=_;rw[Zcz,if_pos e1,if_pos e2]
     clear e1 e2
     go_enter func210,ntmps210
     go_wp2_with (first
      |(go_at_call 117;refine Sb (hr _) fun w1 hb1=>?_;have HX:=HX.out.later HX.out.le hb1;obtain⟨q0,q1,q2,q3,q4,q5,q6⟩:=HX.1;have HX:=Zab HX;clear hb1)
      |(go_at_call 121;refine Sb (hk _) fun w2 hb2=>?_;have HX:=HX.out.later HX.out.le hb2;obtain⟨p0,p1,p2,p3,p4,p5⟩:=HX.2.2.1;have HX:=Zab HX;clear hb2))
     go_loopw [22] (fun i wr=>∃k:Nat,k≤3∧i=Vi k∧Hid (Zgq t s k=true)∧Below w.heap.size w wr) (fun i _=>3-(intOf i).toNat)
     case atStart=>exact⟨0,by omega,rfl,rfl,HX.out.2.2.2⟩
     case round=>
      clear HX;obtain⟨k,hk3,rfl,hok,hb⟩:=hrel;have HB:=Zab hb;clear hb
      by_cases hlt:k<3
      · have hix:=idxS t s k hlt;have hby:=beyond_any (s k)
        by_cases hg:(!t k||Zba (s k))=true
        · have HS:Hid (Zgq t s (k+1)=true):=by show(Zgq t s k&&(!t k||Zba (s k)))=true;rw[hok.out,hg];rfl
          generalize s k=z at *;generalize t k=y at *;generalize Zba z=x at*
          cases y
          · go_wp2;go_roundw
            case rel=>exact⟨k+1,by omega,by go_num,HS,Zac HB.out (Zaa _ _)⟩
            case measure=>simp[intOf];omega
          · simp only[Bool.not_true,Bool.false_or] at hg;subst hg
            go_wp2_with (go_at_call 187;refine Sm (hby _) ?_);go_roundw
            case rel=>exact⟨k+1,by omega,by go_num,HS,Zac HB.out (Zaa _ _)⟩
            case measure=>simp[intOf];omega
        · simp only[Bool.or_eq_true,Bool.not_eq_true',not_or,Bool.not_eq_false,Bool.not_eq_true] at hg;have HS:Hid (Zgq t s 3=false):=sampU_false hlt hg.1 hg.2;obtain⟨g1,g2⟩:=hg;rw[g2] at hby;rw[g1] at hix;clear g1 g2;generalize s k=z at*
          go_wp2_with (go_at_call 187;refine Sm (hby _) ?_);go_ret;exact⟨by rw[HE.out,HS.out];rfl,Zac HB.out (Zaa _ _)⟩
      · have e:k=3:=by omega
        subst e;go_wp2;go_ret;exact⟨by rw[HE.out,hok.out];rfl,HB.out⟩
   · have HE:Hid (Zcz b l m c t s=3):=by show Zcz b l m c t s=_;rw[Zcz,if_pos e1,if_neg e2,bankE_ne e2]
     rw[bankE_ne e2,Zbg (by decide)] at hk;clear e1 e2
     go_enter func210,ntmps210
     go_wp2_with (first
      |(go_at_call 117;refine Sb (hr _) fun w1 hb1=>?_;have HX:=HX.out.later HX.out.le hb1;obtain⟨q0,q1,q2,q3,q4,q5,q6⟩:=HX.1;have HX:=Zab HX;clear hb1)
      |(go_at_call 121;refine Sb (hk _) fun w2 hb2=>?_;have HX:=HX.out.later HX.out.le hb2;have HX:=Zab HX;clear hb2))
     go_ret;exact⟨by rw[HE.out];rfl,HX.out.2.2.2⟩
 · have HE:Hid (Zcz b l m c t s=1):=by show Zcz b l m c t s=_;rw[Zcz,if_neg e1,ruleE_ne e1]
   rw[ruleE_ne e1,Zbg (by decide)] at hr;clear e1
   go_enter func210,ntmps210
   go_wp2_with (first
    |(go_at_call 117;refine Sb (hr _) fun w1 hb1=>?_;have HX:=HX.out.later HX.out.le hb1;have HX:=Zab HX;clear hb1))
   go_ret;exact⟨by rw[HE.out];rfl,HX.out.2.2.2⟩
end Go.Proofs.YtnfdfiholcelaaaGreatDoor
