
import Derived.Test.YtnfdfiholcelaaaGreatDoorJp12
import Derived.Test.YtnfdfiholcelaaaGreatDoorJp29
set_option maxRecDepth 100000
set_option maxHeartbeats 20000000
namespace Go.Proofs.YtnfdfiholcelaaaGreatDoor
open Go.RowKit Plain Tryz
variable {B i j k t:Nat}{Q:Exit→Act→World→Prop}{a p:Option Addr}{b:Bool}{l:List Ft}{o:Oper}{ops:Array Oper}{rs:List Rd}{s v:Value}{tm:Array Value}{u u' v0 w0:World}{z:Int}
theorem Zf(ht:tm[t]?=some (.bool b))(hg:o.guard=some (j,b):=by rfl)(hj:(ops[j]?).bind (·.dst)=some t:=by rfl):Region.wanted o (yielded ops tm)=true:=by
 unfold Region.wanted yielded
 simp[hg,hj,ht]
theorem Zl(ht:tm[t]?=some (.bool (!b)))(hg:o.guard=some (j,b):=by rfl)(hj:(ops[j]?).bind (·.dst)=some t:=by rfl):Region.wanted o (yielded ops tm)=false:=by
 unfold Region.wanted yielded
 simp[hg,hj,ht]
theorem ite3{a b c:Prop}[Decidable a][Decidable b][Decidable c]{R:Type}(f:Bool→R):(if a then if b then if c then f true else f false else f false else f false)=f (decide a&&(decide b&&decide c)):=by
 by_cases ha:a<;>by_cases hb:b<;>by_cases hc:c<;>simp[ha,hb,hc]
def Fts(u:World)(a:Option Addr)(l:List Ft):Prop:=l=[]∨∃b off,a=some (Ad b off)∧∀k,k<l.length→u.rangeAt b (off+k*5) (ftL (ftAt l k))
theorem Fts.later(h:Fts u a l)(hb:Bw u u'):Fts u' a l:=by
 rcases h with h|⟨b,off,h,hc⟩
 · exact .inl h
 · exact .inr ⟨b,off,h,fun k hk j v hj=>cell_later hb (hc k hk j v hj)⟩
theorem Fts.at(h:Fts u a l)(hk:k<l.length):∃b off,a=some (Ad b off)∧u.rangeAt b (off+k*5) (ftL (ftAt l k)):=by
 rcases h with h|⟨b,off,h,hc⟩
 · subst h;simp at hk
 · exact⟨b,off,h,hc k hk⟩
theorem infoF5:(prog.info? 73).map (·.size)=some 5:=by kernel_rfl
theorem infoP3:(prog.info? 329).map (·.size)=some 3:=by kernel_rfl
theorem blk_2of3(w:World)(t:TypeId)(cs:List Value)(o o1:Obj):Blk t (((w.alloc o).alloc (.cells cs.toArray t)).alloc o1) (w.heap.size+1) cs:=by
 have:=(Blk.new (w.alloc o) t cs).later (Zb _ o1);rw[World.size_alloc] at this;exact this
theorem blk_1of3(w:World)(t:TypeId)(cs:List Value)(o o1:Obj):Blk t (((w.alloc (.cells cs.toArray t)).alloc o).alloc o1) w.heap.size cs:=((Blk.new w t cs).later (Zb _ _)).later (Zb _ _)
theorem blk_3of3(w:World)(t:TypeId)(cs:List Value)(o o1:Obj):Blk t (((w.alloc o).alloc o1).alloc (.cells cs.toArray t)) (w.heap.size+1+1) cs:=by
 have:=Blk.new ((w.alloc o).alloc o1) t cs;rw[World.size_alloc,World.size_alloc] at this;exact this
theorem fault_any(B:Nat)(pf:Option Addr)(cf:Nat)(l:List Ft)(now ax un:Int)(sf:Bool)(hl:l.length≤1000)(w:World)(h1:Kc w B 32 (.slice pf l.length cf))(h2:Kc w B 63 (Vi now))(hf:Fts w pf l):
 Calls prog 232 #[.pointer (some (Ad B 0)),.agg #[Vi ax,Vi un,.bool sf]] w (Rt w (.tuple #[.agg (ftL ((ail l now ax un sf).getD ftD)).toArray,.bool (ail l now ax un sf).isSome])):=by
 have HF:=Za (fun u (h:Bw w u)=>hf.later h);have H1:=Za (fun u (h:Bw w u)=>cell_later h h1);have H2:=Za (fun u (h:Bw w u)=>cell_later h h2);have HB:=Za (Us w (.cells #[Vi ax,Vi un,.bool sf] 329) (.cells #[Vi 0,Vi 0,Vi 0,Vi 0,Vi 0] 73) (.cells #[Vi 0,Vi 0,Vi 0,Vi 0,Vi 0] 73));have HP:=Za (blk_1of3 w 329 [Vi ax,Vi un,.bool sf] (.cells #[Vi 0,Vi 0,Vi 0,Vi 0,Vi 0] 73) (.cells #[Vi 0,Vi 0,Vi 0,Vi 0,Vi 0] 73));have HL:=Za (blk_3of3 w 73 [Vi 0,Vi 0,Vi 0,Vi 0,Vi 0] (.cells #[Vi ax,Vi un,.bool sf] 329) (.cells #[Vi 0,Vi 0,Vi 0,Vi 0,Vi 0] 73));have HR:=Za (blk_2of3 w 73 [Vi 0,Vi 0,Vi 0,Vi 0,Vi 0] (.cells #[Vi ax,Vi un,.bool sf] 329) (.cells #[Vi 0,Vi 0,Vi 0,Vi 0,Vi 0] 73));have HQ:Hid (w.heap.size≤w.heap.size+1+1∧w.heap.size≠w.heap.size+1+1∧w.heap.size+1≠w.heap.size+1+1∧w.heap.size≤w.heap.size+1):=Za (by omega);clear hf h1 h2
 go_enter func232,ntmps232
 go_upto_region 3 with fail;generalize (((w.alloc (.cells #[Vi ax,Vi un,.bool sf] 329)).alloc (.cells #[Vi 0,Vi 0,Vi 0,Vi 0,Vi 0] 73)).alloc (.cells #[Vi 0,Vi 0,Vi 0,Vi 0,Vi 0] 73))=v0 at *;generalize w.heap.size+1+1=QL at *;generalize w.heap.size+1=QR at *;have h1:=H1.out v0 HB.out
 go_upto_region 4 with fail
 go_loopw [7,15] (fun fo ix wr=>∃k:Nat,k≤l.length∧ix=Vi k∧fo=.bool (ailU l now ax un sf k).isSome∧Bw w wr∧Blk 329 wr w.heap.size [Vi ax,Vi un,.bool sf]∧Blk 73 wr QL (ftL ((ailU l now ax un sf k).getD ftD))∧Blk 73 wr QR (ftL ftD)) (fun _ ix _=>l.length-(intOf ix).toNat)
 case atStart=>exact⟨0,Nat.zero_le _,rfl,rfl,HB.out,HP.out,HL.out,HR.out⟩
 case round=>
  obtain⟨k,hk,rfl,rfl,hb,hp,hla,hre⟩:=hrel;clear HB HP HL HR h1
  by_cases hlt:k<l.length
  · obtain⟨b,off,rfl,hr⟩:=(HF.out wr hb).at hlt;have HS:Hid (ailU l now ax un sf (k+1)=if hits now ax un sf (ftAt l k) then some (ftAt l k) else ailU l now ax un sf k):=Za rfl;have h2:=H2.out wr hb
    have k0:(0:Int)≤(k:Int):=by omega
    have k1:(k:Int)<(l.length:Int):=by omega
    generalize hft:ftAt l k=f at *;obtain⟨fa,fk,fx,fu,fi⟩:=f;have c0:=hr 0 _ rfl;have c1:=hr 1 _ rfl;have c2:=hr 2 _ rfl;have c3:=hr 3 _ rfl;have c4:=hr 4 _ rfl
    dsimp only at c0 c1 c2 c3 c4
    simp only[Nat.add_zero] at c0;have Hj:=Za hb;have Hk:=Za hp;have Hh:=Za hla;have Hl:=Za hre;generalize Hm:ailU l now ax un sf k=ak at *;clear hr hb hp hla hre hft Hm
    go_upto_region 6 with fail;have HX:Hid (Blk 73 (wr.alloc (.cells #[Vi fa,Vi fk,Vi fx,Vi fu,Vi fi] 73)) wr.heap.size [Vi fa,Vi fk,Vi fx,Vi fu,Vi fi]):=Za (Blk.new wr _ _);have Hc:=Za (Zc Hj.out (Zb wr (.cells #[Vi fa,Vi fk,Vi fx,Vi fu,Vi fi] 73)));have Hd:=Za (Hk.out.later (Zb wr (.cells #[Vi fa,Vi fk,Vi fx,Vi fu,Vi fi] 73)));have Ha:=Za (Hh.out.later (Zb wr (.cells #[Vi fa,Vi fk,Vi fx,Vi fu,Vi fi] 73)));have Hb:=Za (Hl.out.later (Zb wr (.cells #[Vi fa,Vi fk,Vi fx,Vi fu,Vi fi] 73)));have h2:=cell_later (Zb wr (.cells #[Vi fa,Vi fk,Vi fx,Vi fu,Vi fi] 73)) h2;have Hn:Hid (QL≠wr.heap.size):=Za (by have:=Hh.out.lt;omega);clear Hj Hk Hh Hl c0 c1 c2 c3 c4;generalize wr.alloc (.cells #[Vi fa,Vi fk,Vi fx,Vi fu,Vi fi] 73)=v1 at *;generalize wr.heap.size=QX at *;have x0:=(HX.out.cell (j:=0) rfl).1;have Hf:Hid (hits now ax un sf (fa,fk,fx,fu,fi)=(decide (fa≤now)&&(decide (fx=ax)&&(decide (fu=un)&&decide (decide (fk=4)=sf))))):=Za rfl
    by_cases hn:fa≤now
    · have hd:decide (fa≤now)=true:=by simpa using hn
      rw[hd] at Hf;refine Cs [19,20,21,22,23,24,25,26,27,28,29,30,31] ?_;refine Cp 0 19 [] ?_;refine Cq (fun _ h=>cell_later h x0) 1 20 [0] ?_;refine Cp 2 21 [] ?_;refine Cp 3 22 [2] ?_;refine Cp 4 23 [3] ?_;refine Cq (fun _ h=>cell_later h h2) 5 24 [4] ?_;refine Cp 6 25 [1,5] ?_;refine Cp 7 26 [6] ?_;refine Cl (x:=.tmp 9) 8 27 [7] (fun y w _ u hSw=>⟨Zg HX.out.range hSw,rfl⟩) underlying73 infoF5 ?_ (hw:=fun y w hF=>Zf (congrArg some hF.1));refine Cc 9 28 [8,7] (fun y w h _=>partOf_any (fa,fk,fx,fu,fi) _) ?_ (hw:=fun y w hF=>Zf (congrArg some hF.2.1));refine Cl (x:=.tmp 3) 10 29 [7] (fun y w _ u hSw=>⟨Zg Hd.out.range hSw,rfl⟩) underlying329 infoP3 ?_ (hw:=fun y w hF=>Zf (congrArg some hF.1));refine Cp 11 30 [9,10,7] ?_ (hy:=fun y w hF u=>by have e1:y 29=_:=hF.1;have e2:y 28=_:=hF.2.1;clear hF;go_simp;exact ite3 (fun x=>Result.ok (Next.value (Value.bool x)) u)) (hw:=fun y w hF=>Zf (congrArg some hF.2.2.1));refine Cp 12 31 [7,11] ?_;refine Ce (fun y u1 hB hf=>?_);have Hg:=Za hB;clear hB hf;go_simp;have hB:=Hg.out;clear Hg;generalize u1=v6 at hB⊢;refine Ek ?_;generalize (decide (fx=ax)&&(decide (fu=un)&&decide (decide (fk=4)=sf)))=bb at *;have Hc:=Za (Zc Hc.out hB);have Hd:=Za (Hd.out.later hB);have Ha:=Za (Ha.out.later hB);have Hb:=Za (Hb.out.later hB);have HX:=Za (HX.out.later hB);clear hB h2 x0 hn hd
      cases bb
      · go_wp2_with fail;go_roundw
        case rel=>exact⟨k+1,by omega,by go_num,by rw[HS.out,Hf.out];rfl,Hc.out,Hd.out,by rw[HS.out,Hf.out];exact Ha.out,Hb.out⟩
        case measure=>simp[intOf];omega
      · have x0:=(HX.out.cell (j:=0) rfl).1;have x1:=(HX.out.cell (j:=1) rfl).1;have x2:=(HX.out.cell (j:=2) rfl).1;have x3:=(HX.out.cell (j:=3) rfl).1;have x4:=(HX.out.cell (j:=4) rfl).1;have l0:=Ha.out.cell (j:=0) rfl;have l1:=Ha.out.cell (j:=1) rfl;have l2:=Ha.out.cell (j:=2) rfl;have l3:=Ha.out.cell (j:=3) rfl;have l4:=Ha.out.cell (j:=4) rfl;have Ho:=Za (((((Ha.out.set 0 (Vi fa)).set 1 (Vi fk)).set 2 (Vi fx)).set 3 (Vi fu)).set 4 (Vi fi));have Hp:=Za (((((Hd.out.far HQ.out.2.1 0 (Vi fa)).far HQ.out.2.1 1 (Vi fk)).far HQ.out.2.1 2 (Vi fx)).far HQ.out.2.1 3 (Vi fu)).far HQ.out.2.1 4 (Vi fi));have Hq:=Za (((((Hb.out.far HQ.out.2.2.1 0 (Vi fa)).far HQ.out.2.2.1 1 (Vi fk)).far HQ.out.2.2.1 2 (Vi fx)).far HQ.out.2.2.1 3 (Vi fu)).far HQ.out.2.2.1 4 (Vi fi));have Hi:=Za (((((Hc.out.setCell (p:=⟨QL,0,none⟩) HQ.out.1 (Vi fa)).setCell (p:=⟨QL,1,none⟩) HQ.out.1 (Vi fk)).setCell (p:=⟨QL,2,none⟩) HQ.out.1 (Vi fx)).setCell (p:=⟨QL,3,none⟩) HQ.out.1 (Vi fu)).setCell (p:=⟨QL,4,none⟩) HQ.out.1 (Vi fi));have Ht:=Hn.out;go_wp2_with fail;go_roundw
        case rel=>exact⟨k+1,by omega,by go_num,by rw[HS.out,Hf.out];rfl,Hi.out,Hp.out,by rw[HS.out,Hf.out];exact Ho.out,Hq.out⟩
        case measure=>simp[intOf];omega
    · have hd:decide (fa≤now)=false:=by simpa using hn
      rw[hd] at Hf;refine Cs [19,20,21,22,23,24,25,26,27,28,29,30,31] ?_;refine Cp 0 19 [] ?_;refine Cq (fun _ h=>cell_later h x0) 1 20 [0] ?_;refine Cp 2 21 [] ?_;refine Cp 3 22 [2] ?_;refine Cp 4 23 [3] ?_;refine Cq (fun _ h=>cell_later h h2) 5 24 [4] ?_;refine Cp 6 25 [1,5] ?_;refine Cp 7 26 [6] ?_;refine Cz 8 27 [7] ?_ (hw:=fun y w hF=>Zl (congrArg some hF.1));refine Cz 9 28 [7] ?_ (hw:=fun y w hF=>Zl (congrArg some hF.1));refine Cz 10 29 [7] ?_ (hw:=fun y w hF=>Zl (congrArg some hF.1));refine Cz 11 30 [7] ?_ (hw:=fun y w hF=>Zl (congrArg some hF.1));refine Cp 12 31 [7,11] ?_;refine Ce (fun y u1 hB hf=>?_);have Hg:=Za hB;clear hB hf;go_simp;have hB:=Hg.out;clear Hg;generalize u1=v6 at hB⊢;refine Ek ?_;have Hc:=Za (Zc Hc.out hB);have Hd:=Za (Hd.out.later hB);have Ha:=Za (Ha.out.later hB);have Hb:=Za (Hb.out.later hB);clear hB h2 x0 hn hd;go_wp2_with fail;go_roundw
      case rel=>exact⟨k+1,by omega,by go_num,by rw[HS.out,Hf.out];rfl,Hc.out,Hd.out,by rw[HS.out,Hf.out];exact Ha.out,Hb.out⟩
      case measure=>simp[intOf];omega
  · obtain rfl:k=l.length:=by omega
    have Hc:=Za hb;have Ha:=Za hla;have Hb:=Za hre;have Hu:=HQ.out.2.2.1;generalize hak:ailU l now ax un sf l.length=ak at *;generalize hfd:ak.getD ftD=f at *;have Hr:=Za hak;have Hs:=Za hfd;obtain⟨fa,fk,fx,fu,fi⟩:=f;have x0:=(Ha.out.cell (j:=0) rfl).1;have x1:=(Ha.out.cell (j:=1) rfl).1;have x2:=(Ha.out.cell (j:=2) rfl).1;have x3:=(Ha.out.cell (j:=3) rfl).1;have x4:=(Ha.out.cell (j:=4) rfl).1;have l0:=Hb.out.cell (j:=0) rfl;have l1:=Hb.out.cell (j:=1) rfl;have l2:=Hb.out.cell (j:=2) rfl;have l3:=Hb.out.cell (j:=3) rfl;have l4:=Hb.out.cell (j:=4) rfl;have Hi:=Za (((((Hc.out.setCell (p:=⟨QR,0,none⟩) HQ.out.2.2.2 (Vi fa)).setCell (p:=⟨QR,1,none⟩) HQ.out.2.2.2 (Vi fk)).setCell (p:=⟨QR,2,none⟩) HQ.out.2.2.2 (Vi fx)).setCell (p:=⟨QR,3,none⟩) HQ.out.2.2.2 (Vi fu)).setCell (p:=⟨QR,4,none⟩) HQ.out.2.2.2 (Vi fi));clear hfd hak hb hp hla hre;go_wp2_with fail;exact bodyPost_ret (v:=.tuple #[.agg (ftL (fa,fk,fx,fu,fi)).toArray,.bool ak.isSome]) (by simp[results,results232,go_sem,ftL,l0,l1,l2,l3,l4]) rfl ⟨by rw[show ail l now ax un sf=ak from Hr.out,Hs.out],Hi.out⟩
def alC(o:Option Ft):Ft:=match o with
 |none=>ftD
 |some f=>(f.1,f.2.1,f.2.2.1,f.2.2.2.1,cD f.2.2.2.2)
theorem hits_part(now ax un:Int)(sf:Bool)(fa fk fx fu fi:Int):
 (hits now ax un sf (fa,fk,fx,fu,fi)=true∧fa≤now∧fx=ax∧fu=un∧((fk=4∧sf=true)∨((fk==4)=false∧sf=false)))∨
 (hits now ax un sf (fa,fk,fx,fu,fi)=false∧(¬fa≤now∨(fa≤now∧¬fx=ax)∨(fa≤now∧fx=ax∧¬fu=un)∨(fa≤now∧fx=ax∧fu=un∧fk=4∧sf=false)∨(fa≤now∧fx=ax∧fu=un∧(fk==4)=false∧sf=true))):=by
 unfold hits
 by_cases h1:fa≤now<;>by_cases h2:fx=ax<;>by_cases h3:fu=un<;>by_cases h4:fk=4<;>cases sf<;>simp[h1,h2,h3,h4]
theorem ails_any(pf:Option Addr)(cf:Nat)(l:List Ft)(now ax un:Int)(sf:Bool)(hl:l.length≤1000)(w:World)(hf:Fts w pf l):
 Calls prog 127 #[.slice pf l.length cf,Vi now,Vi ax,Vi un,.bool sf] w (Rt w (.tuple #[.agg (ftL (alC (ail l now ax un sf))).toArray,.bool (ail l now ax un sf).isSome])):=by
 have HF:=Za (fun u (h:Bw w u)=>hf.later h);have HB:=Za (Zc (Zb w (.cells (ftL ftD).toArray 73)) (Zb _ (.cells (ftL ftD).toArray 73)));have HR:=Za ((Blk.new w 73 (ftL ftD)).later (Zb _ (.cells (ftL ftD).toArray 73)));have HL:Hid (Blk 73 ((w.alloc (.cells (ftL ftD).toArray 73)).alloc (.cells (ftL ftD).toArray 73)) (w.heap.size+1) (ftL ftD)):=Za (by have:=Blk.new (w.alloc (.cells (ftL ftD).toArray 73)) 73 (ftL ftD);rw[World.size_alloc] at this;exact this);have HQ:Hid (w.heap.size≤w.heap.size+1∧w.heap.size≠w.heap.size+1):=Za (by omega);clear hf
 go_enter func127,ntmps127
 go_upto_region 3 with fail;have HV:(w.alloc (.cells #[Vi 0,Vi 0,Vi 0,Vi 0,Vi 0] 73)).alloc (.cells #[Vi 0,Vi 0,Vi 0,Vi 0,Vi 0] 73)=(w.alloc (.cells (ftL ftD).toArray 73)).alloc (.cells (ftL ftD).toArray 73):=rfl;rw[HV];clear HV;generalize (w.alloc (.cells (ftL ftD).toArray 73)).alloc (.cells (ftL ftD).toArray 73)=v0 at *;generalize w.heap.size+1=QL at*
 go_loopw [13,14] (fun fo ix wr=>∃k:Nat,k≤l.length∧ix=Vi k∧fo=.bool (ailU l now ax un sf k).isSome∧Bw w wr∧Blk 73 wr QL (ftL ((ailU l now ax un sf k).getD ftD))∧Blk 73 wr w.heap.size (ftL ftD)) (fun _ ix _=>l.length-(intOf ix).toNat)
 case atStart=>exact⟨0,Nat.zero_le _,rfl,rfl,HB.out,HL.out,HR.out⟩
 case round=>
  obtain⟨k,hk,rfl,rfl,hb,hla,hre⟩:=hrel;clear HB HL HR
  by_cases hlt:k<l.length
  · obtain⟨b,off,rfl,hr⟩:=(HF.out wr hb).at hlt;have HS:Hid (ailU l now ax un sf (k+1)=if hits now ax un sf (ftAt l k) then some (ftAt l k) else ailU l now ax un sf k):=Za rfl
    have k0:(0:Int)≤(k:Int):=by omega
    have k1:(k:Int)<(l.length:Int):=by omega
    generalize hft:ftAt l k=f at *;obtain⟨fa,fk,fx,fu,fi⟩:=f;have c0:=hr 0 _ rfl;have c1:=hr 1 _ rfl;have c2:=hr 2 _ rfl;have c3:=hr 3 _ rfl;have c4:=hr 4 _ rfl
    dsimp only at c0 c1 c2 c3 c4
    simp only[Nat.add_zero] at c0;have Hd:=Za hb;have Ha:=Za hla;have Hf:=Za hre;generalize Hi:ailU l now ax un sf k=ak at *;clear hr hb hla hre hft Hi
    rcases hits_part now ax un sf fa fk fx fu fi with⟨hh,h1,rfl,rfl,h4⟩|⟨hh,hno⟩
    · have Hg:=Za hh;clear hh;have l0:=Ha.out.cell (j:=0) rfl;have l1:=Ha.out.cell (j:=1) rfl;have l2:=Ha.out.cell (j:=2) rfl;have l3:=Ha.out.cell (j:=3) rfl;have l4:=Ha.out.cell (j:=4) rfl;have Hb:=Za (((((Ha.out.set 0 (Vi fa)).set 1 (Vi fk)).set 2 (Vi fx)).set 3 (Vi fu)).set 4 (Vi fi));have Hc:=Za (((((Hf.out.far HQ.out.2 0 (Vi fa)).far HQ.out.2 1 (Vi fk)).far HQ.out.2 2 (Vi fx)).far HQ.out.2 3 (Vi fu)).far HQ.out.2 4 (Vi fi));have Hh:=Za (((((Hd.out.setCell (p:=⟨QL,0,none⟩) HQ.out.1 (Vi fa)).setCell (p:=⟨QL,1,none⟩) HQ.out.1 (Vi fk)).setCell (p:=⟨QL,2,none⟩) HQ.out.1 (Vi fx)).setCell (p:=⟨QL,3,none⟩) HQ.out.1 (Vi fu)).setCell (p:=⟨QL,4,none⟩) HQ.out.1 (Vi fi))
      rcases h4 with⟨rfl,rfl⟩|⟨h4,rfl⟩
      all_goals
       go_wp2_with fail;go_roundw
       case rel=>exact⟨k+1,by omega,by go_num,by rw[HS.out,Hg.out];rfl,Hh.out,by rw[HS.out,Hg.out];exact Hb.out,Hc.out⟩
       case measure=>simp[intOf];omega
    · have Hg:=Za hh;clear hh
      rcases hno with h1|⟨h1,h2⟩|⟨h1,rfl,h3⟩|⟨h1,rfl,rfl,rfl,rfl⟩|⟨h1,rfl,rfl,h4,rfl⟩
      all_goals
       go_wp2_with fail;go_roundw
       case rel=>exact⟨k+1,by omega,by go_num,by rw[HS.out,Hg.out];rfl,Hd.out,by rw[HS.out,Hg.out];exact Ha.out,Hf.out⟩
       case measure=>simp[intOf];omega
  · obtain rfl:k=l.length:=by omega
    have Hd:=Za hb;have Ha:=Za hla;have Hf:=Za hre;have Hm:=HQ.out.2;have hcl:=fun(x:Int)=>Yr x (-262143) 262143 (by omega);generalize hak:ailU l now ax un sf l.length=ak at *;have Hj:=Za hak;have Hk:Hid (alC ak=((ak.getD ftD).1,(ak.getD ftD).2.1,(ak.getD ftD).2.2.1,(ak.getD ftD).2.2.2.1,Ze (ak.getD ftD).2.2.2.2 (-262143) 262143)):=Za (by cases ak<;>rfl);generalize hfd:ak.getD ftD=f at *;obtain⟨fa,fk,fx,fu,fi⟩:=f;clear hfd hak hb hla hre;have x4:=Ha.out.cell (j:=4) rfl
    go_upto_region 8 with(go_at_call 94;refine Sm (hcl _ _) ?_);have Hb:=Za (Ha.out.set 4 (Vi (Ze fi (-262143) 262143)));have Hc:=Za (Hf.out.far HQ.out.2 4 (Vi (Ze fi (-262143) 262143)));have Hh:=Za (Hd.out.setCell (p:=⟨QL,4,none⟩) HQ.out.1 (Vi (Ze fi (-262143) 262143)));clear x4 Ha Hf Hd;generalize wr.setCell (Ad QL 4) (Vi (Ze fi (-262143) 262143))=v1 at *;have x0:=(Hb.out.cell (j:=0) rfl).1;have x1:=(Hb.out.cell (j:=1) rfl).1;have x2:=(Hb.out.cell (j:=2) rfl).1;have x3:=(Hb.out.cell (j:=3) rfl).1;have x4:=(Hb.out.cell (j:=4) rfl).1;have l0:=Hc.out.cell (j:=0) rfl;have l1:=Hc.out.cell (j:=1) rfl;have l2:=Hc.out.cell (j:=2) rfl;have l3:=Hc.out.cell (j:=3) rfl;have l4:=Hc.out.cell (j:=4) rfl;generalize Ze fi (-262143) 262143=fc at *;have Hl:=Za (((((Hh.out.setCell (p:=⟨w.heap.size,0,none⟩) (Nat.le_refl _) (Vi fa)).setCell (p:=⟨w.heap.size,1,none⟩) (Nat.le_refl _) (Vi fk)).setCell (p:=⟨w.heap.size,2,none⟩) (Nat.le_refl _) (Vi fx)).setCell (p:=⟨w.heap.size,3,none⟩) (Nat.le_refl _) (Vi fu)).setCell (p:=⟨w.heap.size,4,none⟩) (Nat.le_refl _) (Vi fc));go_wp2_with fail;exact bodyPost_ret (v:=.tuple #[.agg (ftL (fa,fk,fx,fu,fc)).toArray,.bool ak.isSome]) (by simp[results,results127,go_sem,ftL,l0,l1,l2,l3,l4]) rfl ⟨by rw[show ail l now ax un sf=ak from Hj.out,Hk.out],Hl.out⟩
theorem rds_one{w:World}{g:Nat}{r:Rd}(h0:Kc w g 0 (Vi r.1))(h1:Kc w g 1 (Vi r.2.1))(h2:Kc w g 2 (Vi r.2.2.1))(h3:Kc w g 3 (Vi r.2.2.2)):Rds w (some (Ad g 0)) [r]:=
 .inr ⟨g,rfl,fun k hk=>by
  obtain rfl:k=0:=by simpa using hk
  exact⟨h0,h1,h2,h3⟩⟩
theorem U9{fn:Nat}{a b c d x y q:Int}(hta:∀w,Sem.run prog (Instr.typeAssert (.iface t v) 325 350 true) w=.ok (.tuple #[.agg #[],.bool false]) w)(hm:∀w,Sem.run prog (method 521 t v "fulmar/plant.spoil") w=.ok (fn,v) w)(hcf:∀z w,Sem.run prog (callFunc fn #[v,z]) w=.ok (.enter fn #[v,z]) w)(hs:∀w,Calls prog fn #[v,.agg #[Vi a,Vi b,Vi c,Vi d]] w (Rt w (.agg #[Vi x,Vi y,Vi z,Vi q])))(w:World):
 Calls prog 230 #[.iface t v,.agg #[Vi a,Vi b,Vi c,Vi d]] w fun e w'=>(∃p cap,e=.returned (.slice p 1 cap)∧Rds w' p [(x,y,z,q)])∧Bw w w':=by
 go_enter func230,ntmps230
 go_wp2_with (refine Sb (hs _) fun w2 hb=>?_;have HB:=Za (Zc (Zc (Zb w _) (Zb _ _)) hb);clear hb);go_ret
 refine⟨⟨_,_,rfl,rds_one ?_ ?_ ?_ ?_⟩,Zc HB.out (Zb _ _)⟩<;>simp[go_sem]
theorem send_none(r:Rd)(w:World):Calls prog 230 #[.iface 350 (.agg #[]),.agg (rdL r).toArray] w fun e w'=>(∃p cap,e=.returned (.slice p 0 cap)∧Rds w' p [])∧Bw w w':=by
 have hta:∀w,Sem.run prog (Instr.typeAssert (.iface 350 (.agg #[])) 325 350 true) w=.ok (.tuple #[.agg #[],.bool true]) w:=fun w=>by kernel_rfl
 unfold rdL
 go_enter func230,ntmps230
 go_wp2;go_ret;exact⟨⟨_,_,rfl,.inl rfl⟩,Zc (Zb _ _) (Zb _ _)⟩
theorem send_any(o:Option Ft)(r:Rd)(hd:-262144≤r.2.2.2∧r.2.2.2≤262143)(w:World):Calls prog 230 #[aiV o,.agg (rdL r).toArray] w fun e w'=>(∃p cap,e=.returned (.slice p (sdL o r).length cap)∧Rds w' p (sdL o r))∧Bw w w':=by
 obtain⟨a,b,c,d⟩:=r
 cases o with
 |none=>exact U9 (fun w=>by kernel_rfl) (fun w=>by kernel_rfl) (fun z w=>by kernel_rfl) (well_spoil a b c d) w
 |some f=>
  obtain⟨f0,k,f2,f3,i⟩:=f
  unfold aiV sdL
  dsimp only
  by_cases h0:k=0
  · rw[if_pos h0,if_pos h0];exact send_none _ w
  rw[if_neg h0,if_neg h0]
  unfold spo
  dsimp only
  by_cases h1:k=1
  · rw[if_pos h1,if_pos h1];exact U9 (fun w=>by kernel_rfl) (fun w=>by kernel_rfl) (fun z w=>by kernel_rfl) (stuck_spoil (cD i) a b c d) w
  rw[if_neg h1,if_neg h1]
  by_cases h2:k=2
  · rw[if_pos h2,if_pos h2];exact U9 (fun w=>by kernel_rfl) (fun w=>by kernel_rfl) (fun z w=>by kernel_rfl) (shift_spoil (cD i) (Y2 (by omega)) a b c d hd) w
  rw[if_neg h2,if_neg h2]
  by_cases h3:k=3
  · rw[if_pos h3,if_pos h3];exact U9 (fun w=>by kernel_rfl) (fun w=>by kernel_rfl) (fun z w=>by kernel_rfl) (mark_spoil a b c d) w
  rw[if_neg h3,if_neg h3];exact U9 (fun w=>by kernel_rfl) (fun w=>by kernel_rfl) (fun z w=>by kernel_rfl) (well_spoil a b c d) w
theorem ailment_any(B:Nat)(pf:Option Addr)(cf:Nat)(l:List Ft)(now ax k:Int)(hl:l.length≤1000)(w:World)(h1:Kc w B 32 (.slice pf l.length cf))(h2:Kc w B 63 (Vi now))(hf:Fts w pf l):
 Calls prog 231 #[.pointer (some (Ad B 0)),Vi ax,Vi k] w (Rt w (aiV (ail l now ax k false))):=by
 have hfa:=fun u (h:Bw w u)=>fault_any B pf cf l now ax k false hl u (cell_later h h1) (cell_later h h2) (hf.later h);clear h1 h2 hf;generalize ail l now ax k false=ak at *;generalize hf:ak.getD ftD=f at *;obtain⟨fa,fk,fx,fu,fi⟩:=f;have Ha:=Za hf;have hao:=ailmentOf_any (fa,fk,fx,fu,fi)
 unfold ftL at hfa hao
 dsimp only at hfa hao
 clear hf
 go_enter func231,ntmps231
 go_upto_region 2 with(go_at_call 232;refine Sb (hfa _ (Below.refl _ _)) fun v hb=>?_;have HB:=Za hb;clear hb);have HB:=Za (Zc HB.out (Zb v (.cells #[Vi fa,Vi fk,Vi fx,Vi fu,Vi fi] 73)));clear hfa
 cases ak with
 |none=>
  go_wp2_with fail;go_ret;exact⟨rfl,HB.out⟩
 |some f=>
  obtain rfl:f=(fa,fk,fx,fu,fi):=Ha.out
  go_wp2_with (go_at_call 250;refine Sb (hao _) fun v hb=>?_;have HB:=Za (Zc HB.out hb);clear hb);go_ret;exact⟨rfl,HB.out⟩
theorem infoR4:(prog.info? 161).map (·.size)=some 4:=by kernel_rfl
theorem channel_any(B:Nat)(pf:Option Addr)(cf:Nat)(l:List Ft)(now ax k lab x:Int)(hl:l.length≤1000)(w:World)(h1:Kc w B 32 (.slice pf l.length cf))(h2:Kc w B 63 (Vi now))(hf:Fts w pf l):
 Calls prog 189 #[.pointer (some (Ad B 0)),Vi ax,Vi k,Vi lab,Vi x] w fun e w'=>(∃p cap,e=.returned (.slice p (chR l now ax k lab x).length cap)∧Rds w' p (chR l now ax k lab x))∧Bw w w':=by
 have hai:=fun u (h:Bw w u)=>ailment_any B pf cf l now ax k hl u (cell_later h h1) (cell_later h h2) (hf.later h);have hh:∀u,Calls prog 193 #[Vi x] u (Re u (Vi (cW x))):=wHold_any x;have hsd:=send_any (ail l now ax k false) (lab,k,3,cW x) (Y2 (by omega));have HE:Hid (chR l now ax k lab x=sdL (ail l now ax k false) (lab,k,3,cW x)):=Za rfl;rw[HE.out]
 unfold rdL at hsd
 dsimp only at hsd
 clear h1 h2 hf HE;generalize ail l now ax k false=ak at *;generalize cW x=cx at*
 go_enter func189,ntmps189
 go_upto_region 2 with(go_at_call 193;refine Sm (hh _) ?_);have hB:=Zb w (.cells #[Vi lab,Vi k,Vi 3,Vi cx] 161);have HR:Hid (Blk 161 (w.alloc (.cells #[Vi lab,Vi k,Vi 3,Vi cx] 161)) w.heap.size [Vi lab,Vi k,Vi 3,Vi cx]):=Za (Blk.new w _ _);generalize w.alloc (.cells #[Vi lab,Vi k,Vi 3,Vi cx] 161)=v1 at *;generalize w.heap.size=QR at HR⊢;clear hh;refine Cs [17,18,19,20,21,22,10] ?_;refine Cp 0 17 [] ?_;refine Cp 1 18 [] ?_;refine Cp 2 19 [] ?_;refine Cc 3 20 [0,1,2] (fun y w h _=>hai _ (Zc hB h)) ?_;refine Cl (x:=.tmp 11) 4 21 [] (fun y w _ u hSw=>⟨Zg HR.out.range hSw,rfl⟩) underlying161 infoR4 ?_;refine Cd 5 22 [3,4] (fun v u=>∃p cap,v=.slice p (sdL ak (lab,k,3,cx)).length cap∧Rds u p (sdL ak (lab,k,3,cx))) (fun y w h _=>(hsd _).mono (by rintro e w' ⟨⟨p,cap,rfl,hr⟩,hb⟩;exact⟨_,rfl,⟨p,cap,rfl,hr⟩,hb⟩)) (fun _ _ _ ⟨a,b,h1,h3⟩ hb=>⟨a,b,h1,h3.later hb⟩) ?_;refine Cu (fun y=>y 22) 6 10 [5] ?_ (hy:=fun y w _ u=>by go_simp);refine Ce (fun y u1 hB hf=>?_);obtain⟨p,cap,e,hr⟩:=hf.2.1;simp only[e];have Ha:=Za hr;clear hr e;have Hb:=Za hB;clear hB hf;go_simp;have hB2:=Hb.out;clear Hb;generalize u1=v2 at hB2 Ha⊢;refine Ek ?_;clear hai hsd;go_wp2_with fail;go_ret;exact⟨⟨p,cap,rfl,Ha.out⟩,Zc hB hB2⟩
theorem Cy{P:Program}{md:Region.Mode}{D:List Nat}{F:(Nat→Value)→Act}{S':World→Prop}{listed0:Array Bool}{fuel:Nat}{r:List Ent}{G:World→Prop}(g:∀w,Bw w0 w→G w)(i d:Nat)(cl:List Nat)(k:Cb P md ops Q w0 D F S' listed0 fuel (⟨i,d,false,fun y _=>y d=v⟩::r))(ho:ops[i]?=some o:=by rfl)(hc:Yo md ops D listed0 cl i d false r=true:=by kernel_rfl)(hw:∀y w,depF cl y w r→Region.wanted o (yielded ops (F y).tmps)=true:=by intro y w hF;rfl)(hy:∀y w,G w→depF cl y w r→(execOp (F y).eval o).run P w=.ok (.value v) w:=by intro y w hG hF;simp only[depF,List.contains_cons,List.contains_nil,Nat.reduceBEq,Bool.or_false,Bool.or_true,if_true,if_false,Bool.false_eq_true] at hF;go_simp;(try first|with_reducible rfl|rfl)):
 Cb P md ops Q w0 D F S' listed0 fuel r:=
 Cv i d cl _ (fun y w hS hF=>⟨v,w,hy y w (g w hS) hF,Below.refl _ _,if_pos rfl⟩) k (fun _ _ _ _ h ha _=>(ha _ (List.mem_cons_self ..)).trans h) ho hc hw
def nz(f:Nat→Int)(k:Nat):List Value:=[Vi (if 0<k then f 0 else 0),Vi (if 1<k then f 1 else 0),Vi (if 2<k then f 2 else 0)]
theorem nz_set(f:Nat→Int)(hk:k<3):(nz f k).set k (Vi (f k))=nz f (k+1):=by
 rcases Qth k with rfl|rfl|rfl<;>rfl
theorem nz_get(f:Nat→Int)(hk:k<3):(nz f k)[k]?=some (Vi 0):=by
 rcases Qth k with rfl|rfl|rfl<;>rfl
theorem dig_bd(b z:Int)(hb:1≤b)(h0:0≤z):∀k,0≤dig b z k∧dig b z k≤z
 |0=>by simp[dig];exact h0
 |k+1=>by
  have:=dig_bd b z hb h0 k;rw[dig];have h1:=Int.ediv_le_self b this.1;exact⟨Int.ediv_nonneg this.1 (by omega),by omega⟩
theorem noises_any(a0 a1 a3 a4 a5 a6 a7 a8 a9 a10 a11 a14 N z:Int)(p q:Option Addr)(n m cn cm:Nat)(hN:0≤N∧N≤1000)(hz:0≤z∧z≤8589934591)(w:World):
 Calls prog 188 #[.agg (Qba a0 a1 N a3 a4 a5 a6 a7 a8 a9 a10 a11 a14 p q n cn m cm),Vi z] w (Rt w (.agg (nz (noi N z) 3).toArray)):=by
 obtain⟨N0,N1⟩:=hN;have HZ:=Za (dig_bd (2*N+1) z (by omega) hz.1);have Hh:=Za hz.2;clear hz;have HB:=Za (Us w (.cells (Qba a0 a1 N a3 a4 a5 a6 a7 a8 a9 a10 a11 a14 p q n cn m cm) 26) (.cells #[Vi 0,Vi 0,Vi 0] 30) (.cells #[Vi 0,Vi 0,Vi 0] 30));have HA:=Za (blk_1of3 w 26 [Vi a0,Vi a1,Vi N,Vi a3,Vi a4,Vi a5,Vi a6,Vi a7,Vi a8,Vi a9,Vi a10,Vi a11,.slice p n cn,.slice q m cm,Vi a14] (.cells #[Vi 0,Vi 0,Vi 0] 30) (.cells #[Vi 0,Vi 0,Vi 0] 30));have HR:Hid (Blk 30 _ _ (nz (noi N z) 0)):=Za (blk_2of3 w 30 [Vi 0,Vi 0,Vi 0] (.cells (Qba a0 a1 N a3 a4 a5 a6 a7 a8 a9 a10 a11 a14 p q n cn m cm) 26) (.cells #[Vi 0,Vi 0,Vi 0] 30));have HL:Hid (Blk 30 _ _ (nz (noi N z) 0)):=Za (blk_3of3 w 30 [Vi 0,Vi 0,Vi 0] (.cells (Qba a0 a1 N a3 a4 a5 a6 a7 a8 a9 a10 a11 a14 p q n cn m cm) 26) (.cells #[Vi 0,Vi 0,Vi 0] 30));have HQ:Hid (w.heap.size≤w.heap.size+1+1∧w.heap.size≠w.heap.size+1+1∧w.heap.size+1≠w.heap.size+1+1∧w.heap.size≤w.heap.size+1):=Za (by omega)
 go_enter func188,ntmps188
 go_upto_region 2 with fail;generalize (((w.alloc (.cells (Qba a0 a1 N a3 a4 a5 a6 a7 a8 a9 a10 a11 a14 p q n cn m cm) 26)).alloc (.cells #[Vi 0,Vi 0,Vi 0] 30)).alloc (.cells #[Vi 0,Vi 0,Vi 0] 30))=v0 at *;generalize w.heap.size+1+1=QL at *;generalize w.heap.size+1=QR at *;have x2:=(HA.out.cell (j:=2) rfl).1
 go_upto_region 4 with fail;clear x2
 go_loopw [1,12] (fun g ix wr=>∃k:Nat,k≤3∧ix=Vi k∧g=Vi (dig (2*N+1) z k)∧Bw w wr∧Blk 26 wr w.heap.size [Vi a0,Vi a1,Vi N,Vi a3,Vi a4,Vi a5,Vi a6,Vi a7,Vi a8,Vi a9,Vi a10,Vi a11,.slice p n cn,.slice q m cm,Vi a14]∧Blk 30 wr QL (nz (noi N z) k)∧Blk 30 wr QR (nz (noi N z) 0)) (fun _ ix _=>3-(intOf ix).toNat)
 case atStart=>exact⟨0,Nat.zero_le _,rfl,rfl,HB.out,HA.out,HL.out,HR.out⟩
 case round=>
  obtain⟨k,hk,rfl,rfl,hb,ha,hla,hre⟩:=hrel;clear HB HA HL HR;have g0:=(HZ.out k).1;have g1:=Int.le_trans (HZ.out k).2 Hh.out
  by_cases hlt:k<3
  · have x2:=(ha.cell (j:=2) rfl).1;have xk:=(hla.cell (nz_get _ hlt)).1;have fk:=(hla.cell (nz_get _ hlt)).2
    have k0:(0:Int)≤(k:Int):=by omega
    have k1:(k:Int)<3:=by omega
    have HD:Hid (dig (2*N+1) z (k+1)=dig (2*N+1) z k/(2*N+1)):=Za rfl;have HN:Hid (noi N z k=dig (2*N+1) z k%(2*N+1)-N):=Za rfl;generalize dig (2*N+1) z k=g at *;have hm0:=Int.emod_nonneg g (show 2*N+1≠0 by omega);have hm1:=Int.emod_lt_of_pos g (show 0<2*N+1 by omega);have hne:(2*N+1=0)=False:=eq_false (by omega);have htm:g.tmod (2*N+1)=g%(2*N+1):=Int.tmod_eq_emod_of_nonneg g0;have htd:g.tdiv (2*N+1)=g/(2*N+1):=Int.tdiv_eq_ediv_of_nonneg g0;have hwr:=Wr (g%(2*N+1)-N);have hd0:=Int.ediv_nonneg g0 (show 0≤2*N+1 by omega);have hd1:=Int.ediv_le_self (2*N+1) g0
    have hwd:wrap64 (g/(2*N+1))=g/(2*N+1):=by unfold wrap64;omega
    have Hc:=Za hla;have Hd:=Za ha;have Hf:=Za hre;have Ha:=Za hb;clear hb ha hla hre
    go_upto_region 6 with fail;refine Ct [15,16,17,18,19,20,21,22] ?_;refine Cp 0 15 [] ?_;refine Cp 1 16 [] ?_;refine Cp 2 17 [] ?_;refine Cp 3 18 [1,2] ?_;refine Cp 4 19 [] ?_;refine Cy (fun _ h=>cell_later h x2) 5 20 [4] ?_;refine Cp 6 21 [3,5] ?_;refine Cp 7 22 [0] ?_;refine Cn 1 9 [8] (fun y u hB _=>?_);refine Ra 8 (fun K hK=>?_);have e:=cell_later hB xk;have e1:=Yq hB xk fk;go_simp;refine hK.out _ _ trivial (fun _=>?_);clear hK K e e1;refine Dn ?_;have Hb:=Za ((Ha.out.trans (hB.mono Ha.out.size)).setCell (p:=⟨QL,k,none⟩) HQ.out.1 (Vi (g%(2*N+1)-N)));have Hg:=Za ((Hc.out.later hB).set k (Vi (noi N z k)));rw[nz_set _ hlt,HN.out] at Hg;have Hi:=Za ((Hd.out.later hB).far HQ.out.2.1 k (Vi (g%(2*N+1)-N)));have Hj:=Za ((Hf.out.later hB).far HQ.out.2.2.1 k (Vi (g%(2*N+1)-N)));clear Ha Hc Hd Hf hB xk fk x2;generalize u.setCell (Ad QL k) (Vi (g%(2*N+1)-N))=v1 at *;go_simp;refine Ek ?_;go_wp2_with fail;go_roundw
    case rel=>exact⟨k+1,by omega,by go_num,by rw[HD.out],Hb.out,Hi.out,Hg.out,Hj.out⟩
    case measure=>simp[intOf];omega
  · obtain rfl:k=3:=by omega
    have Ha:=Za hb;have x0:=(hla.cell (j:=0) rfl).1;have x1:=(hla.cell (j:=1) rfl).1;have x2:=(hla.cell (j:=2) rfl).1;have l0:=hre.cell (j:=0) rfl;have l1:=hre.cell (j:=1) rfl;have l2:=hre.cell (j:=2) rfl;simp only[Nat.reduceLT,if_true] at x0 x1 x2;have Hk:=HQ.out.2.2.1;have HE:Hid (nz (noi N z) 3=[Vi (noi N z 0),Vi (noi N z 1),Vi (noi N z 2)]):=Za rfl;generalize noi N z 0=n0 at *;generalize noi N z 1=n1 at *;generalize noi N z 2=n2 at *;have Hb:=Za (((Ha.out.setCell (p:=⟨QR,0,none⟩) HQ.out.2.2.2 (Vi n0)).setCell (p:=⟨QR,1,none⟩) HQ.out.2.2.2 (Vi n1)).setCell (p:=⟨QR,2,none⟩) HQ.out.2.2.2 (Vi n2));clear hb ha hla hre;go_wp2_with fail;exact bodyPost_ret (v:=.agg #[Vi n0,Vi n1,Vi n2]) (by simp[results,results188,go_sem,l0,l1,l2]) rfl ⟨by rw[HE.out],Hb.out⟩
theorem rds_lay(h:Rds u p rs):Lay u p (encL rs):=by
 rcases h with rfl|⟨g,rfl,hc⟩
 · exact .inl rfl
 · refine .inr ⟨g,0,rfl,fun j v hj=>?_⟩;have hl:=Xf rs;have hlt:j<(encL rs).length:=(List.getElem?_eq_some_iff.1 hj).1
   have hk:j/4<rs.length:=by omega
   have f:=encL_four rs (j/4) hk;have q:=hc (j/4) hk;rw[Nat.zero_add]
   rcases(show j=j/4*4∨j=j/4*4+1∨j=j/4*4+2∨j=j/4*4+3 by omega) with e|e|e|e<;>rw[e] at hj⊢
   · rw[f.1] at hj;cases hj;exact q.1
   · rw[f.2.1] at hj;cases hj;exact q.2.1
   · rw[f.2.2.1] at hj;cases hj;exact q.2.2.1
   · rw[f.2.2.2] at hj;cases hj;exact q.2.2.2
theorem rdL_one:∀(rs:List Rd),∀v∈encL rs,v.oneCell'=true
 |[],v,h=>by cases h
 |r::l,v,h=>by
  have e:encL (r::l)=Vi r.1::Vi r.2.1::Vi r.2.2.1::Vi r.2.2.2::encL l:=rfl;rw[e] at h;simp only[List.mem_cons] at h
  rcases h with rfl|rfl|rfl|rfl|h
  · rfl
  · rfl
  · rfl
  · rfl
  · exact rdL_one l v h
theorem encL_app:∀(a b:List Rd),encL (a++b)=encL a++encL b
 |[],_=>rfl
 |r::l,b=>by
  have e:∀l,encL (r::l)=Vi r.1::Vi r.2.1::Vi r.2.2.1::Vi r.2.2.2::encL l:=fun _=>rfl;rw[List.cons_append,e,e,encL_app l b];rfl
theorem Blk.grew'{t:TypeId}{cs:List Value}{row:Option Nat}(h:Blk t u B cs)(hg:u.grownBy u' row)(hr:some B≠row):Blk t u' B cs:=(hg.block B h.lt hr).trans h
def ROw(v0 u:World)(s:Value)(rs:List Rd):Prop:=u.ownsRow v0.heap.size 161 4 s rs.length (encL rs)∧Bw v0 u
theorem ROw.later(h:ROw v0 u s rs)(hb:Bw u u'):ROw v0 u' s rs:=⟨Y3 h.1 hb,Zc h.2 hb⟩
theorem ROw.nil(v0:World):ROw v0 v0 (.slice none 0 0) []:=⟨World.ownsRow_nil _ _ _ _,Below.refl _ _⟩
theorem Nb{rest:List Oper}{a:Act}{ns:List Rd}{c:Nat}(sO xO:Operand)(ho:o.op=.call { callee:=.builtin .append,args:=#[sO,xO],argTypes:=#[118,118] })(hx:a.eval xO=.slice p ns.length c)(hown:ROw v0 u s rs)(hy:Rds u p ns)(hm:rs.length+ns.length≤1000)(h:∀s' u',ROw v0 u' s' (rs++ns)→(∀t B cs,t≠161→Blk t u B cs→Blk t u' B cs)→wpList prog ops Q rest (a.put o.dst s') u')(hgd:o.guard=none:=by rfl)(hs:a.eval sO=s:=by rfl):wpList prog ops Q (o::rest) a u:=by
 obtain⟨i0,hi4,hz0,hz1,hz2⟩:=info_parts rd_info;refine Na sO xO ho Y0 hi4 hz0 hz1 hz2 hx hown.1 (rds_lay hy) (Xf ns) (rdL_one ns) (by unfold maxLen;omega) (by omega) hown.2.size (fun s' u' h1 h2=>h s' u' ⟨?_,hown.2.grown h2 hown.2.size (fun k hk=>(hown.1.lt k hk).1)⟩ (fun t B cs ht hb=>hb.grew' h2 (fun e=>?_))) (by decide) rfl hgd hs
 · rw[List.length_append,encL_app];exact h1
 · rcases hown.1.2 with⟨rfl,_⟩|⟨g,cap,cur,rfl,_,hg,_⟩
   · cases e
   · obtain rfl:B=g:=Option.some.inj e
     unfold Blk at hb
     rw[hg] at hb
     simp at hb
     exact ht hb.2.symm
theorem chR_len(l:List Ft)(now ax k lab x:Int):(chR l now ax k lab x).length≤1:=by
 unfold chR sdL
 split
 · simp
 · split<;>simp
theorem chU_len(l:List Ft)(now:Int)(i:Nat)(N x z:Int):∀k,(chU l now i N x z k).length≤k
 |0=>by simp[chU]
 |k+1=>by
  have:=chU_len l now i N x z k;have:=chR_len l now i k (1+i) (x+noi N z k);rw[chU,List.length_append];omega
theorem suU_len(i:Nat)(at':Nat→Int):∀k,(suU i at' k).length=k
 |0=>rfl
 |k+1=>by rw[suU,List.length_append,suU_len i at' k];rfl
theorem spR_len(l:List Ft)(now v:Int):∀k,(spR l now v k).length≤k
 |0=>by simp[spR]
 |k+1=>by
  have:=spR_len l now v k;have:=chR_len l now 2 k 8 v;rw[spR,List.length_append];omega
theorem axU_len(C:CR)(l:List Ft)(now:Int)(x:Nat→Int)(at':Nat→Nat→Int)(s:Stp)(h:∀i,i<2→C.a i 4≤4):∀i,i≤2→(axU C l now x at' s i).length≤8*i
 |0,_=>by simp[axU]
 |i+1,hi=>by
  have a:=axU_len C l now x at' s h i (by omega);have b:=chU_len l now i (C.a i 2) (x i) (s.z i) 3;have c:=h i (by omega);rw[axU,axR,List.length_append,List.length_append,List.length_append,suU_len];simp only[List.length_cons,List.length_nil]
  omega
def flL(C:CR)(pf:Option Addr)(nf cf:Nat)(S:FS)(now:Int)(x:Nat→Int)(at':Nat→Nat→Int):List Value:=
 crL C++[.slice pf nf cf]++stL S++[Vi now,Vi (x 0),Vi (x 1),Vi (at' 0 0),Vi (at' 0 1),Vi (at' 0 2),Vi (at' 0 3),Vi (at' 1 0),Vi (at' 1 1),Vi (at' 1 2),Vi (at' 1 3)]
def stpL(s:Stp):List Value:=[Vi (s.k 0),Vi (s.k 1),Vi (s.p 0),Vi (s.p 1),Vi (s.z 0),Vi (s.z 1),Vi s.v,.bool s.g]
section
variable (C : CR) (pf : Option Addr) (nf cf : Nat) (S : FS) (now : Int) (x : Nat → Int) (at' : Nat → Nat → Int) (s : Stp)
theorem fl_axes:((flL C pf nf cf S now x at').drop 0).take 30=axL C 0++axL C 1:=rfl
theorem fl_x(hi:i<2):(flL C pf nf cf S now x at')[64+i]?=some (Vi (x i)):=by
 rcases Qtw i with rfl|rfl<;>rfl
theorem fl_at(hi:i<2)(hk:k<4):(flL C pf nf cf S now x at')[66+i*4+k]?=some (Vi (at' i k)):=by
 rcases Qtw i with rfl|rfl<;>rcases(show k=0∨k=1∨k=2∨k=3 by omega) with rfl|rfl|rfl|rfl<;>rfl
theorem stp_k(hi:i<2):(stpL s)[i]?=some (Vi (s.k i)):=by
 rcases Qtw i with rfl|rfl<;>rfl
theorem stp_p(hi:i<2):(stpL s)[2+i]?=some (Vi (s.p i)):=by
 rcases Qtw i with rfl|rfl<;>rfl
theorem stp_z(hi:i<2):(stpL s)[4+i]?=some (Vi (s.z i)):=by
 rcases Qtw i with rfl|rfl<;>rfl
end
theorem nz_idx(f:Nat→Int)(hk:k<3)(w:World):(Instr.index 30 (.agg (nz f 3).toArray) (Vi k)).run prog w=.ok (Vi (f k)) w:=by
 rcases Qth k with rfl|rfl|rfl<;>kernel_rfl
theorem rds_new(w:World)(r:Rd):Rds (w.alloc (.cells (rdL r).toArray 161)) (some (Ad w.heap.size 0)) [r]:=
 have h:=Blk.new w 161 (rdL r)
 rds_one (h.cell (j:=0) rfl).1 (h.cell (j:=1) rfl).1 (h.cell (j:=2) rfl).1 (h.cell (j:=3) rfl).1
theorem axidx_i(C:CR)(hi:i<2)(w:World):(Instr.index 27 (.agg (axL C 0++axL C 1).toArray) (Vi i)).run prog w=.ok (.agg (axL C i).toArray) w:=by
 rcases Qtw i with rfl|rfl
 · exact axidx0 C w
 · exact axidx1 C w
theorem noises_c(C:CR)(i:Nat)(z:Int)(hN:0≤C.a i 2∧C.a i 2≤1000)(hz:0≤z∧z≤8589934591)(w:World):Calls prog 188 #[.agg (axL C i).toArray,Vi z] w (Rt w (.agg (nz (noi (C.a i 2) z) 3).toArray)):=
 noises_any _ _ _ _ _ _ _ _ _ _ _ _ (C.a i 2) z _ _ _ _ _ _ hN hz w
theorem noi_bd{N:Int}(hN:0≤N)(k:Nat):-N≤noi N z k∧noi N z k≤N:=by
 have h0:=Int.emod_nonneg (dig (2*N+1) z k) (show 2*N+1≠0 by omega);have h1:=Int.emod_lt_of_pos (dig (2*N+1) z k) (show 0<2*N+1 by omega)
 unfold noi
 omega
def plR(T:Int)(o:Option Rd)(f:Option Ft):Int:=match o with
 |none=>0
 |some r=>if r.2.2.1=3 then(match f with
  |some f=>Ze f.2.2.2.2 (-T) T
  |none=>r.2.2.2) else 0
theorem fl_tr(C:CR)(pf:Option Addr)(nf cf:Nat)(S:FS)(now:Int)(x:Nat→Int)(at':Nat→Nat→Int)(hi:i<2):(flL C pf nf cf S now x at')[i*15+5]?=some (Vi (C.a i 5)):=by
 rcases Qtw i with rfl|rfl<;>rfl
theorem place_any(B:Nat)(C:CR)(pf:Option Addr)(cf:Nat)(l:List Ft)(S:FS)(now:Int)(x:Nat→Int)(at':Nat→Nat→Int)(i k:Nat)(hi:i<2)(hk:k<4)(ta:Option Addr)(tc:Nat)(rs:List Rd)(hrl:rs.length≤1000)(w:World)(hb:Blk 173 w B (flL C pf l.length cf S now x at'))(hf:Fts w pf l)(hl:l.length≤1000)(hT:1≤C.a i 5∧C.a i 5≤1000)(hr:Rds w ta rs):
 Calls prog 191 #[.pointer (some (Ad B 0)),Vi i,Vi k,.slice ta rs.length tc] w fun e w'=>e=.returned (Vi (plR (C.a i 5) (fnd (64+4*(i:Int)+(k:Int)) 3 rs) (ail l now i k true)))∧Bw w w':=by
 obtain⟨T0,T1⟩:=hT;have hul:=Nw 64 (i:Int) (k:Int) (by omega) (by omega) (by omega);have hfi:=find_any ta tc rs (64+4*(i:Int)+(k:Int)) 3 hrl w hr;have hfa:=fun u (h:Bw w u)=>fault_any B pf cf l now i k true hl u ((hb.later h).cell (j:=32) rfl).1 ((hb.later h).cell (j:=63) rfl).1 (hf.later h);have Hb:=Za (fun u (h:Bw w u)=>((hb.later h).cell (fl_tr C pf l.length cf S now x at' hi)).1);clear hb hf hr
 have i0:(0:Int)≤(i:Int):=by omega
 have i1:(i:Int)<2:=by omega
 have k0:(0:Int)≤(k:Int):=by omega
 have k1:(k:Int)<4:=by omega
 generalize ail l now i k true=ak at *;generalize 64+4*(i:Int)+(k:Int)=lb at*
 unfold fndV at hfi
 cases hfn:fnd lb 3 rs with
 |none=>
  rw[hfn] at hfi
  dsimp only[rdV] at hfi
  go_enter func191,ntmps191
  go_wp2_with (first
   |(go_at_call 108;refine Sm (hul _) ?_)
   |(go_at_call 161;refine hfi.mono ?_;rintro e v ⟨rfl,hb⟩;have HB:=Za hb;clear hb))
  go_ret;exact⟨rfl,Zc HB.out (Zb _ _)⟩
 |some r=>
  obtain⟨ra,rb,rc,rd⟩:=r;rw[hfn] at hfi
  dsimp only[rdV] at hfi
  clear hfn
  by_cases hc:rc=3
  · subst hc
    cases ak with
    |none=>
     dsimp only[Option.getD_none,ftL,ftD,Option.isSome_none] at hfa
     go_enter func191,ntmps191
     go_upto_region 4 with(first|(go_at_call 108;refine Sm (hul _) ?_)|(go_at_call 161;refine hfi.mono ?_;rintro e v ⟨rfl,hb⟩;have HB:=Za (Zc hb (Zb v (.cells #[Vi ra,Vi rb,Vi 3,Vi rd] 161)));clear hb));have hcl:=(Blk.new v 161 [Vi ra,Vi rb,Vi 3,Vi rd]).cell (j:=3) rfl;generalize v.alloc (.cells #[Vi ra,Vi rb,Vi 3,Vi rd] 161)=v1 at*
     go_upto_region 5 with(go_at_call 232;refine Sb (hfa _ HB.out) fun z hb=>?_;replace HB:=Za (Zc HB.out hb);have hcl:=cell_later hb hcl.1;clear hb);have Ha:=Za (Zc HB.out (Zb z (.cells #[Vi 0,Vi 0,Vi 0,Vi 0,Vi 0] 73)));have hcl:=cell_later (Zb z (.cells #[Vi 0,Vi 0,Vi 0,Vi 0,Vi 0] 73)) hcl;generalize z.alloc (.cells #[Vi 0,Vi 0,Vi 0,Vi 0,Vi 0] 73)=v2 at *;go_wp2_with fail;go_ret;exact⟨rfl,Ha.out⟩
    |some f=>
     obtain⟨fa,fk,fx,fu,fi⟩:=f
     dsimp only[Option.getD_some,ftL,Option.isSome_some] at hfa
     have hcp:=Yu fi (-(C.a i 5)) (C.a i 5)
     go_enter func191,ntmps191
     go_upto_region 4 with(first|(go_at_call 108;refine Sm (hul _) ?_)|(go_at_call 161;refine hfi.mono ?_;rintro e v ⟨rfl,hb⟩;have HB:=Za (Zc hb (Zb v (.cells #[Vi ra,Vi rb,Vi 3,Vi rd] 161)));clear hb));have hcl:=(Blk.new v 161 [Vi ra,Vi rb,Vi 3,Vi rd]).cell (j:=3) rfl;generalize v.alloc (.cells #[Vi ra,Vi rb,Vi 3,Vi rd] 161)=v1 at*
     go_upto_region 6 with(go_at_call 232;refine Sb (hfa _ HB.out) fun z hb=>?_;replace HB:=Za (Zc HB.out hb);have hcl:=cell_later hb hcl.1;clear hb);have Ha:=Za (Zc HB.out (Zb z (.cells #[Vi fa,Vi fk,Vi fx,Vi fu,Vi fi] 73)));have c4:=((Blk.new z 73 [Vi fa,Vi fk,Vi fx,Vi fu,Vi fi]).cell (j:=4) rfl).1;have ht:=Hb.out _ Ha.out;generalize z.alloc (.cells #[Vi fa,Vi fk,Vi fx,Vi fu,Vi fi] 73)=v2 at*
     go_wp2_with (go_at_call 172;refine Sm (hcp _) ?_);go_ret;exact⟨rfl,Ha.out⟩
  · have hcb:(rc==3)=false:=by simpa using hc
    have Hc:Hid (plR (C.a i 5) (some (ra,rb,rc,rd)) ak=0):=Za (by unfold plR;exact if_neg hc);rw[Hc.out];clear hc
    go_enter func191,ntmps191
    go_wp2_with (first|(go_at_call 108;refine Sm (hul _) ?_)|(go_at_call 161;refine hfi.mono ?_;rintro e v ⟨rfl,hb⟩;have HB:=Za (Zc hb (Zb v (.cells #[Vi ra,Vi rb,Vi rc,Vi rd] 161)));clear hb));go_ret;exact⟨rfl,HB.out⟩
def mvX(p:Nat→Int):Nat→Int
 |0=>0
 |k+1=>mvX p k+p k
def mvA(at':Nat→Nat→Int)(i:Nat)(p:Nat→Int)(k:Nat):Nat→Nat→Int:=upd at' i (fun j=>if j<k then p j else at' i j)
theorem fl_setX(C:CR)(pf:Option Addr)(nf cf:Nat)(S:FS)(now:Int)(x:Nat→Int)(at':Nat→Nat→Int)(hi:i<2)(v:Int):(flL C pf nf cf S now x at').set (64+i) (Vi v)=flL C pf nf cf S now (upd x i v) at':=by
 rcases Qtw i with rfl|rfl<;>rfl
theorem fl_setA(C:CR)(pf:Option Addr)(nf cf:Nat)(S:FS)(now:Int)(x:Nat→Int)(at':Nat→Nat→Int)(hi:i<2)(hk:k<4)(v:Int):(flL C pf nf cf S now x at').set (66+i*4+k) (Vi v)=flL C pf nf cf S now x (upd at' i (upd (at' i) k v)):=by
 rcases Qtw i with rfl|rfl<;>rcases(show k=0∨k=1∨k=2∨k=3 by omega) with rfl|rfl|rfl|rfl<;>rfl
theorem fl_su(C:CR)(pf:Option Addr)(nf cf:Nat)(S:FS)(now:Int)(x:Nat→Int)(at':Nat→Nat→Int)(hi:i<2):(flL C pf nf cf S now x at')[i*15+4]?=some (Vi (C.a i 4)):=by
 rcases Qtw i with rfl|rfl<;>rfl
theorem mvA_step(at':Nat→Nat→Int)(i:Nat)(p:Nat→Int)(k:Nat):upd (mvA at' i p k) i (upd (mvA at' i p k i) k (p k))=mvA at' i p (k+1):=by
 funext j r
 unfold mvA upd
 by_cases h:j=i
 · simp only[h,if_true]
   by_cases h1:r=k
   · subst h1;simp
   · by_cases h2:r<k
     · rw[if_neg h1,if_pos h2,if_pos (by omega)]
     · rw[if_neg h1,if_neg h2,if_neg (by omega)]
 · simp only[h,if_false]
theorem mvA_zero(at':Nat→Nat→Int)(i:Nat)(p:Nat→Int):mvA at' i p 0=at':=by
 funext j r
 unfold mvA upd
 by_cases h:j=i
 · subst h;simp
 · simp[h]
theorem updx_same(x:Nat→Int)(i:Nat):upd x i (x i+0)=x:=by
 funext j;unfold upd;by_cases h:j=i
 · subst h;simp
 · simp[h]
theorem mvX_bd{p:Nat→Int}(h:∀k,-300000≤p k∧p k≤300000):∀k:Nat,-300000*(k:Int)≤mvX p k∧mvX p k≤300000*(k:Int)
 |0=>by simp[mvX]
 |k+1=>by
  have a:=mvX_bd h k;have b:=h k;rw[mvX];omega
def Oth(w0 u:World)(B:Nat):Prop:=w0.heap.size≤u.heap.size∧u.os=w0.os∧u.tape=w0.tape∧u.output=w0.output∧∀b,b<w0.heap.size→b≠B→u.heap[b]?=w0.heap[b]?
theorem Oth.refl(w:World)(B:Nat):Oth w w B:=⟨Nat.le_refl _,rfl,rfl,rfl,fun _ _ _=>rfl⟩
theorem Oth.later(h:Oth w0 u B)(hb:Bw u u'):Oth w0 u' B:=⟨Nat.le_trans h.1 hb.size,hb.os.trans h.2.1,hb.tape.trans h.2.2.1,hb.output.trans h.2.2.2.1,fun b h1 h2=>(hb.block b (Nat.lt_of_lt_of_le h1 h.1)).trans (h.2.2.2.2 b h1 h2)⟩
theorem Oth.set(h:Oth w0 u B):Oth w0 (u.setCell (Ad B j) v) B:=
 have hb:=(Below.refl 0 u).setCell (p:=⟨B,j,none⟩) (Nat.zero_le _) v
 ⟨Nat.le_trans h.1 hb.size,hb.os.trans h.2.1,hb.tape.trans h.2.2.1,hb.output.trans h.2.2.2.1,fun b h1 h2=>(heap_setCell_other u ⟨B,j,none⟩ b v h2).trans (h.2.2.2.2 b h1 h2)⟩
theorem Oth.cell{b:Nat}(h:Oth w0 u B)(hb:b≠B)(hc:w0.cell? (Ad b j)=some v):u.cell? (Ad b j)=some v:=by
 have hl:=World.block_lt_of_cell? w0 _ hc;have:=h.2.2.2.2 b hl hb
 unfold World.cell? at hc⊢
 simp only[this];exact hc
theorem Oth.rds{l:List Rd}(h:Oth w0 u B)(hn:∀g,a=some (Ad g 0)→g≠B)(hr:Rds w0 a l):Rds u a l:=by
 rcases hr with hr|⟨g,e,hc⟩
 · exact .inl hr
 · exact .inr ⟨g,e,fun k hk=>⟨h.cell (hn g e) (hc k hk).1,h.cell (hn g e) (hc k hk).2.1,h.cell (hn g e) (hc k hk).2.2.1,h.cell (hn g e) (hc k hk).2.2.2⟩⟩
theorem Oth.fts(h:Oth w0 u B)(hn:l≠[]→∀g o,a=some (Ad g o)→g≠B)(hr:Fts w0 a l):Fts u a l:=by
 rcases hr with hr|⟨g,o,e,hc⟩
 · exact .inl hr
 · exact .inr ⟨g,o,e,fun k hk j v hj=>h.cell (hn (fun z=>by rw[z] at hk;simp at hk) g o e) (hc k hk j v hj)⟩
theorem move_any(B:Nat)(C:CR)(pf:Option Addr)(cf:Nat)(l:List Ft)(S:FS)(now:Int)(x:Nat→Int)(at':Nat→Nat→Int)(i:Nat)(hi:i<2)(ta:Option Addr)(tc:Nat)(rs:List Rd)(push:Int)(p:Nat→Int)(hp:p=fun k:Nat=>plR (C.a i 5) (fnd (64+4*(i:Int)+(k:Int)) 3 rs) (ail l now i k true))(hrl:rs.length≤1000)(w:World)(hb:Blk 173 w B (flL C pf l.length cf S now x at'))(hf:Fts w pf l)(hl:l.length≤1000)(hT:1≤C.a i 5∧C.a i 5≤1000)(h4:2≤C.a i 4∧C.a i 4≤4)(hr:Rds w ta rs)(hnr:∀g,ta=some (Ad g 0)→g≠B)(hnf:l≠[]→∀g o,pf=some (Ad g o)→g≠B)(hpb:∀k,-300000≤p k∧p k≤300000)(hx:-10000000≤x i∧x i≤10000000)(hpu:-1000≤push∧push≤1000):
 Calls prog 130 #[.pointer (some (Ad B 0)),Vi i,.slice ta rs.length tc,Vi push] w fun e w'=>e=.returned (.tuple #[])∧Blk 173 w' B (flL C pf l.length cf S now (upd x i (x i+mvX p (C.a i 4).toNat+push)) (mvA at' i p (C.a i 4).toNat))∧Oth w w' B:=by
 obtain⟨m,hm⟩:∃m:Nat,C.a i 4=(m:Int):=⟨(C.a i 4).toNat,by omega⟩
 have hm2:2≤m∧m≤4:=by omega
 rw[show(C.a i 4).toNat=m by omega];have HM:=Za (mvX_bd hpb);have Hg:=Za hpb;have Hh:=Za hp;clear hp;have HF:=Za (fun u (h:Oth w u B)=>h.fts hnf hf);have HR:=Za (fun u (h:Oth w u B)=>h.rds hnr hr);obtain⟨x0,x1⟩:=hx;obtain⟨p0,p1⟩:=hpu;have x4:=(hb.cell (fl_su C pf l.length cf S now x at' hi)).1;rw[hm] at x4
 have i0:(0:Int)≤(i:Int):=by omega
 have i1:(i:Int)<2:=by omega
 have HB:=Za hb;clear hf hr hnr hnf hpb hb
 go_enter func130,ntmps130
 go_upto_region 1 with fail;clear x4
 go_loopw [17] (fun ix wr=>∃k:Nat,k≤m∧ix=Vi k∧Blk 173 wr B (flL C pf l.length cf S now (upd x i (x i+mvX p k)) (mvA at' i p k))∧Oth w wr B) (fun ix _=>m-(intOf ix).toNat)
 case atStart=>exact⟨0,Nat.zero_le _,rfl,by rw[mvA_zero,mvX,updx_same];exact HB.out,Oth.refl _ _⟩
 case round=>
  clear HB;obtain⟨k,hk,rfl,hb,ho⟩:=hrel;have hmk:=HM.out k;have hmp:=Hg.out k
  by_cases hlt:k<m
  · have k0:(0:Int)≤(k:Int):=by omega
    have k1:(k:Int)<(m:Int):=by omega
    have k4:(k:Int)<4:=by omega
    have hpl:=fun u (h:Bw wr u)=>place_any B C pf cf l S now (upd x i (x i+mvX p k)) (mvA at' i p k) i k hi (by omega) ta tc rs hrl u (hb.later h) ((HF.out wr ho).later h) hl hT ((HR.out wr ho).later h);rw[show plR (C.a i 5) (fnd (64+4*(i:Int)+(k:Int)) 3 rs) (ail l now i k true)=p k by rw[Hh.out]] at hpl;have xk:=hb.cell (fl_at C pf l.length cf S now (upd x i (x i+mvX p k)) (mvA at' i p k) hi (show k<4 by omega));have Hb:=Za hb;have HO:=Za ho;clear hb ho
    go_upto_region 3 with fail;refine Ct [20,21,22,23,24,25,26,27,28,29,30,31] ?_;refine Cp 0 20 [] ?_;refine Cp 1 21 [] ?_;refine Cp 2 22 [] ?_;refine Cp 3 23 [] ?_;refine Cp 4 24 [] ?_;refine Cp 5 25 [] ?_;refine Cp 6 26 [] ?_;refine Cc 7 27 [3,4,5,6] (fun y w h _=>hpl _ h) ?_;refine Cp 8 28 [0] ?_;refine Cp 9 29 [8] ?_;refine Cp 10 30 [9,1] ?_;refine Cp 11 31 [10,2] ?_;refine Cn 1 13 [12] (fun y u hB _=>?_);refine Ra 12 (fun K hK=>?_);have e:=cell_later hB xk.1;have e1:=Yq hB xk.1 xk.2;go_simp;refine hK.out _ _ trivial (fun _=>?_);clear hK K;refine Dn ?_;have Ha:=Za ((Hb.out.later hB).set (66+i*4+k) (Vi (p k)));rw[fl_setA _ _ _ _ _ _ _ _ hi (show k<4 by omega),mvA_step] at Ha;have Hf:=Za ((HO.out.later hB).set (j:=66+i*4+k) (v:=Vi (p k)));clear Hb HO hB hpl xk;generalize u.setCell (Ad B (66+i*4+k)) (Vi (p k))=v3 at *;go_simp;refine Ek ?_
    go_upto_region 4 with fail;have ex:=(Ha.out.cell (fl_x C pf l.length cf S now (upd x i (x i+mvX p k)) (mvA at' i p (k+1)) hi)).1;have fx:=(Ha.out.cell (fl_x C pf l.length cf S now (upd x i (x i+mvX p k)) (mvA at' i p (k+1)) hi)).2;have ea:=(Ha.out.cell (fl_at C pf l.length cf S now (upd x i (x i+mvX p k)) (mvA at' i p (k+1)) hi (show k<4 by omega))).1;rw[Zp] at ex;rw[show mvA at' i p (k+1) i k=p k by unfold mvA upd;simp] at ea;have Hi:Hid (x i+mvX p (k+1)=x i+mvX p k+p k):=Za (by rw[mvX];omega);have hwr:=Wr (x i+mvX p k+p k);generalize mvX p k=mk at *;generalize p k=pk at *;generalize hxx:x i=xx at *;have Hj:=Za hxx;clear hxx;refine Ct [32,33,34,35,36,37,38,39,40,41,42,43,44,45,46,47,48,49] ?_;refine Cp 0 32 [] ?_;refine Cp 1 33 [] ?_;refine Cp 2 34 [0] ?_;refine Cp 3 35 [2] ?_;refine Cp 4 36 [3,1] ?_;refine Cy (fun _ h=>cell_later h ex) 5 37 [4] ?_;refine Cp 6 38 [] ?_;refine Cp 7 39 [] ?_;refine Cp 8 40 [] ?_;refine Cp 9 41 [6] ?_;refine Cp 10 42 [9] ?_;refine Cp 11 43 [10,7] ?_;refine Cp 12 44 [11,8] ?_;refine Cy (fun _ h=>cell_later h ea) 13 45 [12] ?_;refine Cp 14 46 [5,13] ?_;refine Cp 15 47 [0] ?_;refine Cp 16 48 [15] ?_;refine Cp 17 49 [16,1] ?_;refine Cn 1 19 [18] (fun y u hB _=>?_);refine Ra 18 (fun K hK=>?_);have e:=cell_later hB ex;have e1:=Yq hB ex fx;go_simp;refine hK.out _ _ trivial (fun _=>?_);clear hK K;refine Dn ?_;have Hc:=Za ((Ha.out.later hB).set (64+i) (Vi (xx+mk+pk)));rw[fl_setX _ _ _ _ _ _ _ _ hi,upd_upd] at Hc;have Hd:=Za ((Hf.out.later hB).set (j:=64+i) (v:=Vi (xx+mk+pk)));clear Ha Hf hB ex fx ea;generalize u.setCell (Ad B (64+i)) (Vi (xx+mk+pk))=v4 at *;go_simp;refine Ek ?_;go_wp2_with fail;go_roundw
    case rel=>exact⟨k+1,by omega,by go_num,by rw[Hj.out,Hi.out];exact Hc.out,Hd.out⟩
    case measure=>simp[intOf];omega
  · obtain rfl:k=m:=by omega
    have ex:=(hb.cell (fl_x C pf l.length cf S now (upd x i (x i+mvX p k)) (mvA at' i p k) hi)).1;have fx:=(hb.cell (fl_x C pf l.length cf S now (upd x i (x i+mvX p k)) (mvA at' i p k) hi)).2;rw[Zp] at ex;have hwr:=Wr (x i+mvX p k+push);have Hb:=Za hb;have HO:=Za ho;clear hb ho;generalize Hk:x i+mvX p k=mk at*
    go_upto_region 6 with fail;refine Ct [51,52,53,54,55,56,57,58,59,60,61] ?_;refine Cp 0 51 [] ?_;refine Cp 1 52 [] ?_;refine Cp 2 53 [0] ?_;refine Cp 3 54 [2] ?_;refine Cp 4 55 [3,1] ?_;refine Cy (fun _ h=>cell_later h ex) 5 56 [4] ?_;refine Cp 6 57 [] ?_;refine Cp 7 58 [5,6] ?_;refine Cp 8 59 [0] ?_;refine Cp 9 60 [8] ?_;refine Cp 10 61 [9,1] ?_;refine Cn 1 12 [11] (fun y u hB _=>?_);refine Ra 11 (fun K hK=>?_);have e:=cell_later hB ex;have e1:=Yq hB ex fx;go_simp;refine hK.out _ _ trivial (fun _=>?_);clear hK K;refine Dn ?_;have Hc:=Za ((Hb.out.later hB).set (64+i) (Vi (mk+push)));rw[fl_setX _ _ _ _ _ _ _ _ hi,upd_upd] at Hc;have Hd:=Za ((HO.out.later hB).set (j:=64+i) (v:=Vi (mk+push)));clear Hb HO hB ex fx;generalize u.setCell (Ad B (64+i)) (Vi (mk+push))=v4 at *;subst Hk;exact bodyPost_end (v:=.tuple #[]) (by simp[results,results130,go_sem]) rfl ⟨rfl,Hc.out,Hd.out⟩
theorem infoI2:(prog.info? 76).map (·.size)=some 2:=by kernel_rfl
theorem infoI8:(prog.info? 93).map (·.size)=some 8:=by kernel_rfl
theorem Xu:(prog.info? 95).map (·.size)=some 15:=by kernel_rfl
section
variable (C : CR) (pf : Option Addr) (nf cf : Nat) (S : FS) (now : Int) (x : Nat → Int) (at' : Nat → Nat → Int)
theorem fl_x2:((flL C pf nf cf S now x at').drop 64).take 2=[Vi (x 0),Vi (x 1)]:=rfl
theorem fl_a8:((flL C pf nf cf S now x at').drop 66).take 8=[Vi (at' 0 0),Vi (at' 0 1),Vi (at' 0 2),Vi (at' 0 3),Vi (at' 1 0),Vi (at' 1 1),Vi (at' 1 2),Vi (at' 1 3)]:=rfl
theorem fl_bk(hi:i<3):((flL C pf nf cf S now x at').drop (33+i*7)).take 7=bkL (S.bk i):=by
 rcases Qth i with rfl|rfl|rfl<;>rfl
theorem fl_sv(hi:i<2):(flL C pf nf cf S now x at')[33+21+i]?=some (.slice (S.sp i) (S.sn i) (S.sc i)):=by
 rcases Qtw i with rfl|rfl<;>rfl
end
theorem rp_l(r:Rp)(hi:i<2):(rpL r)[2+i]?=some (Vi (r.l i)):=by
 rcases Qtw i with rfl|rfl<;>rfl
theorem rp_s(r:Rp)(hi:i<2):(rpL r)[4+i]?=some (Vi (r.s i)):=by
 rcases Qtw i with rfl|rfl<;>rfl
theorem rp_setL(r:Rp)(hi:i<2)(v:Int):(rpL r).set (2+i) (Vi v)=rpL { r with l:=upd r.l i v }:=by
 rcases Qtw i with rfl|rfl<;>rfl
theorem rp_setS(r:Rp)(hi:i<2)(v:Int):(rpL r).set (4+i) (Vi v)=rpL { r with s:=upd r.s i v }:=by
 rcases Qtw i with rfl|rfl<;>rfl
def fz(f:Nat→Int)(i:Nat):Nat→Int:=fun j=>if j<i then f j else 0
theorem fz_step(f:Nat→Int)(i:Nat):upd (fz f i) i (f i)=fz f (i+1):=by
 funext j;unfold upd fz
 by_cases h:j=i
 · subst h;simp
 · by_cases h2:j<i
   · rw[if_neg h,if_pos h2,if_pos (by omega)]
   · rw[if_neg h,if_neg h2,if_neg (by omega)]
theorem res_report(tmps:Array Value)(U:World)(Y:Nat)(cs:List Value)(h2:tmps.getD 2 undef=.pointer (some (Ad Y 0)))(hR:U.rangeAt Y 0 cs)(hn:cs.length=15):
 (results Tryz.f82 tmps).run prog U=.ok (.agg cs.toArray) U:=by
 have h3:tmps[2]?.getD undef=.pointer (some (Ad Y 0)):=by simpa using h2
 simp[results,results82,h3,asAddr,run_loadVar_mid U Y 0 95 cs _ hR underlying95 rfl (by rw[Xu,hn])]
theorem report_any(B:Nat)(C:CR)(pf:Option Addr)(nf cf:Nat)(S:FS)(now:Int)(x:Nat→Int)(at':Nat→Nat→Int)(sv:Nat→List Sv)(w:World)(hb:Blk 173 w B (flL C pf nf cf S now x at'))(hv:SvL w S sv):
 Calls prog 82 #[.pointer (some (Ad B 0))] w (Rt w (.agg (rpL (rpF ⟨S,sv,x,at'⟩)).toArray)):=by
 have HB:=Za (fun u (h:Bw w u)=>hb.later h);have HV:=Za (fun i (hi:i<2) u (h:Bw w u)=>(hv i hi).2.2.later h);have Hn:=Za (fun i (hi:i<2)=>(hv i hi).1);have Ho:=Za (fun i (hi:i<2)=>(hv i hi).2.1);have HZ:=Za (Blk.new w 95 Qbg);have Hd:=Za (Zb w (.cells Qbk 95));clear hb hv
 go_enter func82,ntmps82
 go_upto_region 1 with fail;generalize w.alloc (.cells Qbk 95)=v0 at *;have Hh:=Za ((HB.out v0 Hd.out).sub 64 2);rw[fl_x2] at Hh;have Hi:=Za ((HB.out v0 Hd.out).sub 66 8);rw[fl_a8] at Hi;have xn:=((HB.out v0 Hd.out).cell (j:=62) rfl).1;refine Cs [5,6,7,8,9,10,11,12,13,14,15,16,17,18,3] ?_;refine Cp 0 5 [] ?_;refine Cp 1 6 [0] ?_;refine Cp 2 7 [1] ?_;refine Cl (x:=.tmp 7) 3 8 [2] (fun y w hF u hSw=>⟨Zg Hh.out hSw,hF.1⟩) underlying76 infoI2 ?_;refine Cp 4 9 [] ?_;refine Cp 5 10 [4] ?_;refine Cp 6 11 [5] ?_;refine Cp 7 12 [6] ?_;refine Cq (fun _ h=>cell_later h xn) 8 13 [7] ?_;refine Cp 9 14 [] ?_;refine Cp 10 15 [9] ?_;refine Cp 11 16 [10] ?_;refine Cl (x:=.tmp 16) 12 17 [11] (fun y w hF u hSw=>⟨Zg Hi.out hSw,hF.1⟩) underlying93 infoI8 ?_;refine Cp 13 18 [3,8,12] ?_;refine Ca 14 3 ?_;refine Cn 1 16 [15] (fun y u1 hB hf=>?_);obtain⟨XA,e,hA⟩:=hf.1;have Hb:Hid (NB _ _ _ XA Qbg):=Za hA;(try simp only[e]);clear e hA;have Hl:=Za hB;clear hB hf;refine Ra 15 (fun K hK=>?_);rw[if_pos (by rfl)];refine Yi 95 (.tmp 3) (.tmp 18) rfl XA 0 #[Vi (x 0),Vi (x 1),Vi 0,Vi 0,Vi 0,Vi 0,Vi S.n,Vi (at' 0 0),Vi (at' 0 1),Vi (at' 0 2),Vi (at' 0 3),Vi (at' 1 0),Vi (at' 1 1),Vi (at' 1 2),Vi (at' 1 3)] rfl rfl (Hb.out.1.there (Nat.le_of_ble_eq_true rfl)) Xu (Zn _ rfl) rfl ?_;have Hj:=Za (Zr [Vi (x 0),Vi (x 1),Vi 0,Vi 0,Vi 0,Vi 0,Vi S.n,Vi (at' 0 0),Vi (at' 0 1),Vi (at' 0 2),Vi (at' 0 3),Vi (at' 1 0),Vi (at' 1 1),Vi (at' 1 2),Vi (at' 1 3)] 0 u1 Hl.out (NB.le Hb.out))
 have Hf:Hid (NB 95 v0.heap.size (u1.setCells XA 0 [Vi (x 0),Vi (x 1),Vi 0,Vi 0,Vi 0,Vi 0,Vi S.n,Vi (at' 0 0),Vi (at' 0 1),Vi (at' 0 2),Vi (at' 0 3),Vi (at' 1 0),Vi (at' 1 1),Vi (at' 1 2),Vi (at' 1 3)]) XA [Vi (x 0),Vi (x 1),Vi 0,Vi 0,Vi 0,Vi 0,Vi S.n,Vi (at' 0 0),Vi (at' 0 1),Vi (at' 0 2),Vi (at' 0 3),Vi (at' 1 0),Vi (at' 1 1),Vi (at' 1 2),Vi (at' 1 3)]):=Za ⟨Blk.setCells [Vi (x 0),Vi (x 1),Vi 0,Vi 0,Vi 0,Vi 0,Vi S.n,Vi (at' 0 0),Vi (at' 0 1),Vi (at' 0 2),Vi (at' 0 3),Vi (at' 1 0),Vi (at' 1 1),Vi (at' 1 2),Vi (at' 1 3)] 0 u1 Qbg Hb.out.1,NB.le Hb.out⟩;generalize hU:World.setCells _ XA 0 _=u2 at *;clear hU;refine hK.out _ _ Hj.out (fun _=>?_);clear hK K;clear Hl Hb;refine Dn ?_;go_simp;have hA:=Hf.out;clear Hf;have hB:=Hj.out;clear Hj;generalize u2=v1 at hB hA⊢;refine Ek ?_;have HR:Hid (Blk 95 v1 XA (rpL ⟨x,fz (fun i=>Zq (S.bk i).o 3) 0,fz (fun i=>sndU (sv i) (sv i).length) 0,S.n,at'⟩)):=Za hA.1;have Hg:Hid (w.heap.size≠XA∧w.heap.size≤XA):=Za (by have:=NB.le hA;have:=HZ.out.lt;omega);have HZ:=Za (HZ.out.later hB);have Ha:=Za (Zc Hd.out hB);clear hA hB Hh Hi xn Hd
 go_upto_region 3 with fail
 go_loopw [19] (fun ix wr=>∃i:Nat,i≤2∧ix=Vi i∧Blk 95 wr XA (rpL ⟨x,fz (fun i=>Zq (S.bk i).o 3) i,fz (fun i=>sndU (sv i) (sv i).length) i,S.n,at'⟩)∧Blk 95 wr w.heap.size Qbg∧Bw w wr) (fun ix _=>2-(intOf ix).toNat)
 case atStart=>exact⟨0,by omega,rfl,HR.out,HZ.out,Ha.out⟩
 case round=>
  clear HR HZ Ha;obtain⟨i,hi2,rfl,hr,hz,hbw⟩:=hrel
  by_cases hi:i<2
  · have i0:(0:Int)≤(i:Int):=by omega
    have i1:(i:Int)<2:=by omega
    have Hk:=Za ((HB.out wr hbw).sub (33+i*7) 7);rw[fl_bk C pf nf cf S now x at' (show i<3 by omega)] at Hk;have hlf:=left_any (S.bk i).b (S.bk i).o (S.bk i).l;have e1:=hr.cell (rp_l _ hi);have HR:=Za hr;have HZ:=Za hz;have Ha:=Za hbw;have Hp:Hid (upd (fz (fun i=>Zq (S.bk i).o 3) i) i (Zq (S.bk i).o 3)=fz (fun i=>Zq (S.bk i).o 3) (i+1)):=Za (fz_step (fun i=>Zq (S.bk i).o 3) i);have Hq:Hid (upd (fz (fun i=>sndU (sv i) (sv i).length) i) i (sndU (sv i) (sv i).length)=fz (fun i=>sndU (sv i) (sv i).length) (i+1)):=Za (fz_step (fun i=>sndU (sv i) (sv i).length) i);clear hr hz hbw
    go_upto_region 6 with(first
     |(refine Lm 33 (.tmp 28) rfl B (33+i*7) (bkL (S.bk i)) Hk.out underlying33 Xd ?_)
     |(go_at_call 131;refine Sb (hlf _) fun v hb=>?_;replace HR:=Za (HR.out.later hb);replace HZ:=Za (HZ.out.later hb);replace Ha:=Za (Zc Ha.out hb);have e2:=cell_later hb e1.1;have e3:=Yq hb e1.1 e1.2;clear hb))
    replace HR:=Za (HR.out.set (2+i) (Vi (Zq (S.bk i).o 3)));rw[rp_setL _ hi] at HR
    dsimp only at HR
    rw[Hp.out] at HR;replace HZ:=Za (HZ.out.far Hg.out.1 (2+i) (Vi (Zq (S.bk i).o 3)));replace Ha:=Za (Ha.out.setCell (p:=⟨XA,2+i,none⟩) Hg.out.2 (Vi (Zq (S.bk i).o 3)));clear Hk hlf e1 e2 e3;generalize v.setCell (Ad XA (2+i)) (Vi (Zq (S.bk i).o 3))=v5 at *;have es:=((HB.out v5 Ha.out).cell (fl_sv C pf nf cf S now x at' hi)).1;rw[Hn.out i hi] at es;have hsn:=fun u (h:Bw w u)=>sound_any (sv i) (S.sp i) (S.sc i) (by have:=Ho.out i hi;omega) u (HV.out i hi u h);have e1:=HR.out.cell (rp_s _ hi)
    go_wp2_with (go_at_call 132;refine Sb (hsn _ Ha.out) fun v hb=>?_;replace HR:=Za (HR.out.later hb);replace HZ:=Za (HZ.out.later hb);replace Ha:=Za (Zc Ha.out hb);have e2:=cell_later hb e1.1;have e3:=Yq hb e1.1 e1.2;clear hb);replace HR:=Za (HR.out.set (4+i) (Vi (sndU (sv i) (sv i).length)));rw[rp_setS _ hi] at HR
    dsimp only at HR
    rw[Hq.out] at HR;replace HZ:=Za (HZ.out.far Hg.out.1 (4+i) (Vi (sndU (sv i) (sv i).length)));replace Ha:=Za (Ha.out.setCell (p:=⟨XA,4+i,none⟩) Hg.out.2 (Vi (sndU (sv i) (sv i).length)));go_roundw
    case rel=>exact⟨i+1,by omega,by go_num,HR.out,HZ.out,Ha.out⟩
    case measure=>simp[intOf];omega
  · obtain rfl:i=2:=by omega
    have HR:=Za hr;have HZ:=Za hz;have Ha:=Za hbw;have HE:Hid (rpL (rpF ⟨S,sv,x,at'⟩)=rpL ⟨x,fz (fun i=>Zq (S.bk i).o 3) 2,fz (fun i=>sndU (sv i) (sv i).length) 2,S.n,at'⟩):=Za rfl;generalize Hm:rpL ⟨x,fz (fun i=>Zq (S.bk i).o 3) 2,fz (fun i=>sndU (sv i) (sv i).length) 2,S.n,at'⟩=cs at *;have Hc:Hid (cs.length=15∧cs.toArray.all (·.oneCell')=true):=Za (by rw[←Hm];exact⟨rfl,Zn _ rfl⟩);clear hr hz hbw Hm
    go_wp2_with (first
     |(refine Lm 95 (.tmp 3) rfl XA 0 cs HR.out.range underlying95 (by rw[Xu,Hc.out.1]) ?_)
     |(refine Sq 95 _ _ rfl ?_;refine wpList_store_mid rfl 95 (.tmp 2) (.tmp 45) rfl w.heap.size 0 cs.toArray rfl rfl (HZ.out.there (by simp[Hc.out.1])) (by rw[Xu];simp[Hc.out.1]) Hc.out.2 ?_))
    have Hr:=Za (HZ.out.there (o:=0) (n:=cs.length) (by simp[Hc.out.1]));exact bodyPost_ret (v:=.agg cs.toArray) (res_report _ _ w.heap.size cs rfl (World.rangeAt_setCells_same _ _ _ _ Hr.out) Hc.out.1) rfl ⟨by rw[HE.out],Zr cs 0 wr Ha.out (Nat.le_refl _)⟩
end Go.Proofs.YtnfdfiholcelaaaGreatDoor
