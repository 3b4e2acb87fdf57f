import Derived.BigQuiet
import Derived.OwnWalk
import Derived.Laws.IdiomCopy
import Derived.Tactics
import Derived.Test.YtnfdfiholcelaaaGreatDoorJh00
import Derived.Test.YtnfdfiholcelaaaGreatDoorJh04
import Derived.Test.YtnfdfiholcelaaaGreatDoorJh05
import Derived.Test.YtnfdfiholcelaaaGreatDoorJh06
import Derived.Test.YtnfdfiholcelaaaGreatDoorJh16
import Derived.Test.YtnfdfiholcelaaaGreatDoorJh21
set_option maxRecDepth 100000
set_option maxHeartbeats 20000000
namespace Go.Proofs.YtnfdfiholcelaaaGreatDoor
open Go.RowKit Plain Tryz
theorem Zbf:(prog.info? 41).map (·.size)=some 30:=by kernel_rfl
def crE(C:CR):Int:=fstN (eCr (C.a 0 0) (C.a 0 1) (C.a 0 2) (C.a 0 3) (C.a 0 4) (C.a 0 5) (C.a 0 6) (C.a 0 7) (C.a 0 8) (C.a 0 9) (C.a 0 10) (C.a 0 11) (C.a 0 14) (C.al 0) (C.zl 0) (C.a 1 0) (C.a 1 1) (C.a 1 2) (C.a 1 3) (C.a 1 4) (C.a 1 5) (C.a 1 6) (C.a 1 7) (C.a 1 8) (C.a 1 9) (C.a 1 10) (C.a 1 11) (C.a 1 14) (C.al 1) (C.zl 1) C.c0 C.c1) 13
def eSt(C:CR)(S:FS)(sv:Nat→List Sv)(k:Nat):Int:=[clE S.n,Zcf (S.bk 0).b (S.bk 0).l,Zcf (S.bk 1).b (S.bk 1).l,Zcf (S.bk 2).b (S.bk 2).l,csE C 0 (sv 0),chE C 0 (S.hd 0),csE C 1 (sv 1),chE C 1 (S.hd 1)].getD k 0
def stE(C:CR)(S:FS)(sv:Nat→List Sv):Int:=if crE C=0 then(if fstN (eSt C S sv) 8=0 then 0 else 3) else crE C
def CrL(u:World)(C:CR):Prop:=∀i,i<2→(C.al i).length≤9223372036854775807∧(C.zl i).length≤9223372036854775807∧(C.al i).length≤C.cn i∧Lst u (C.p i) (C.al i)∧Lst u (C.q i) (C.zl i)
theorem CrL.later{u u':World}{C:CR}(h:CrL u C)(hb:Below u.heap.size u u'):CrL u' C:=fun i hi=>⟨(h i hi).1,(h i hi).2.1,(h i hi).2.2.1,(h i hi).2.2.2.1.later hb,(h i hi).2.2.2.2.later hb⟩
def SvL(u:World)(S:FS)(sv:Nat→List Sv):Prop:=∀i,i<2→S.sn i=(sv i).length∧(sv i).length≤9∧VLs u (S.sp i) (sv i)
theorem SvL.later{u u':World}{S:FS}{sv:Nat→List Sv}(h:SvL u S sv)(hb:Below u.heap.size u u'):SvL u' S sv:=fun i hi=>⟨(h i hi).1,(h i hi).2.1,(h i hi).2.2.later hb⟩
def axE(C:CR)(i:Nat):Nat→Int:=eAx (C.a i 0) (C.a i 1) (C.a i 2) (C.a i 3) (C.a i 4) (C.a i 5) (C.a i 6) (C.a i 7) (C.a i 8) (C.a i 9) (C.a i 10) (C.a i 11) (C.a i 14) (C.al i) (C.zl i)
theorem Zde{C:CR}(h:crE C=0){i:Nat}(hi:i<2){k:Nat}(hk:k<6):axE C i k=0:=by
 have a:=Ziz h
 rcases(show i=0∨i=1 by omega) with rfl|rfl
 · have:=a k (by omega)
   unfold eCr at this
   rwa[if_pos hk] at this
 · have:=a (k+6) (by omega)
   unfold eCr at this
   rwa[if_neg (by omega),if_pos (by omega),Nat.add_sub_cancel] at this
theorem crE_speed{C:CR}(h:crE C=0):Zdh C.c0 C.c1=0:=Ziz h 12 (by omega)
theorem arE_arB{T R S C:Int}(h:arE T R S C=0):arB T R S C=true:=by
 unfold arE at h
 split at h
 · assumption
 · cases h
theorem axC_of{C:CR}{u:World}(h:crE C=0)(hl:CrL u C){i:Nat}(hi:i<2):AxC u C i:=by
 have h0:=Zdz (show rgE (C.a i 4) (C.a i 3)=0 from Zde h hi (k:=0) (by omega));have h2:=Zat (arE_arB (show arE (C.a i 5) (C.a i 6) (C.a i 7) (C.a i 10)=0 from Zde h hi (k:=2) (by omega)));exact⟨h0.1,h2.1,h0.2,⟨h2.2.2.1.1,by omega⟩,⟨h2.2.1.1,by omega⟩,(hl i hi).1,(hl i hi).2.1,(hl i hi).2.2.1,(hl i hi).2.2.2.1,(hl i hi).2.2.2.2⟩
theorem hent8(k:Nat)(hk:k<8)(args:Array Value)(w:World):(callFunc (gSt k) args).run prog w=.ok (.enter (gSt k) args) w:=by
 rcases(show k=0∨k=1∨k=2∨k=3∨k=4∨k=5∨k=6∨k=7 by omega) with rfl|rfl|rfl|rfl|rfl|rfl|rfl|rfl<;>kernel_rfl
theorem checks_say{C:CR}{S:FS}{sv:Nat→List Sv}{Bs:Nat}{b x y:Nat→Nat}(h0:crE C=0){w:World}(hs:SkH w C S Bs b x y)(hl:CrL w C)(hv:SvL w S sv):∀k,k<8→∀u,Below w.heap.size w u→Calls prog (gSt k) (cbSt Bs b x y k) u fun r u'=>r=.returned (errV (eSt C S sv k))∧Below u.heap.size u u':=by
 intro k hk u hb;have hs:=hs.later hb;have hl:=hl.later hb;have hv:=hv.later hb
 rcases(show k=0∨k=1∨k=2∨k=3∨k=4∨k=5∨k=6∨k=7 by omega) with rfl|rfl|rfl|rfl|rfl|rfl|rfl|rfl
 · exact sc1_any hs.st
 · exact sc2_any (S.bk 0) (hs.bk 0 (by omega))
 · exact sc2_any (S.bk 1) (hs.bk 1 (by omega))
 · exact sc2_any (S.bk 2) (hs.bk 2 (by omega))
 · exact sc3_any (i:=0) (by omega) (hs.ax 0 (by omega)) hs.st (hs.ix 0 (by omega)) (hv 0 (by omega)).1 (hv 0 (by omega)).2.1 (hv 0 (by omega)).2.2
 · exact sc4_any (i:=0) (by omega) (hs.ax 0 (by omega)) hs.st (hs.ix 0 (by omega)) (axC_of h0 hl (by omega))
 · exact sc3_any (i:=1) (by omega) (hs.ax 1 (by omega)) hs.st (hs.ix 1 (by omega)) (hv 1 (by omega)).1 (hv 1 (by omega)).2.1 (hv 1 (by omega)).2.2
 · exact sc4_any (i:=1) (by omega) (hs.ax 1 (by omega)) hs.st (hs.ix 1 (by omega)) (axC_of h0 hl (by omega))
theorem craftCheck_c(C:CR)(w:World)(hg:GV w)(hl:CrL w C):Calls prog 64 #[.agg (crL C).toArray] w fun e w'=>e=.returned (errV (crE C))∧Below w.heap.size w w':=
 craftCheck_any (C.a 0 0) (C.a 0 1) (C.a 0 2) (C.a 0 3) (C.a 0 4) (C.a 0 5) (C.a 0 6) (C.a 0 7) (C.a 0 8) (C.a 0 9) (C.a 0 10) (C.a 0 11) (C.a 0 14) (C.p 0) (C.q 0) (C.al 0) (C.zl 0) (C.cn 0) (C.cm 0) (C.a 1 0) (C.a 1 1) (C.a 1 2) (C.a 1 3) (C.a 1 4) (C.a 1 5) (C.a 1 6) (C.a 1 7) (C.a 1 8) (C.a 1 9) (C.a 1 10) (C.a 1 11) (C.a 1 14) (C.p 1) (C.q 1) (C.al 1) (C.zl 1) (C.cn 1) (C.cm 1) C.c0 C.c1 w hg (hl 0 (by omega)) (hl 1 (by omega))
theorem Zia(C:CR)(S:FS)(sv:Nat→List Sv)(w:World)(hg:GV w)(hl:CrL w C)(hv:SvL w S sv):
 Calls prog 18 #[.agg (crL C).toArray,.agg (stL S).toArray] w fun e w'=>e=.returned (errV (stE C S sv))∧Below w.heap.size w w':=by
 have hck:=fun u (h:Below w.heap.size w u)=>craftCheck_c C u (hg.later h) (hl.later h);have HS:Hid (Blk 41 ((w.alloc (.cells (crL C).toArray 29)).alloc (.cells (stL S).toArray 41)) (w.heap.size+1) (stL S)):=Zab (by have:=Blk.new (w.alloc (.cells (crL C).toArray 29)) 41 (stL S);rw[World.size_alloc] at this;exact this);have HC:=Zab ((Blk.new w 29 (crL C)).later (Zaa _ (.cells (stL S).toArray 41)));have HB:=Zab (Zac (Zaa w (.cells (crL C).toArray 29)) (Zaa _ (.cells (stL S).toArray 41)));have HCr:Hid (World.rangeAt ((w.alloc (.cells (crL C).toArray 29)).alloc (.cells (stL S).toArray 41)) w.heap.size 0 (crL C)):=Zab HC.out.range
 by_cases h0:crE C=0
 · have hsc:=stateChecks_ok C S;have HE:Hid (stE C S sv=if fstN (eSt C S sv) 8=0 then 0 else 3):=Zab (by unfold stE;rw[if_pos h0]);rw[HE.out];simp only[h0,Zar] at hck;have HFE:=Zab (fun(u v:World) (h:Below w.heap.size w u) (g cap Bs:Nat) (b x y:Nat→Nat) (hc:Clos u (some (Ad g 0)) 8 gSt (cbSt Bs b x y)) (hs:SkH u C S Bs b x y)=>Zhz (some (Ad g 0)) 8 cap gSt (cbSt Bs b x y) (eSt C S sv) (by decide) u hc (hg.later h) hent8 (fun k hk _=>checks_say h0 hs (hl.later h) (hv.later h) k hk));clear hg hl hv
   by_cases hf:fstN (eSt C S sv) 8=0
   · rw[if_pos hf,Zar];simp only[hf,Zar] at HFE
     go_enter func18,ntmps18
     go_upto_region 4 with(first
      |(refine Lq 29 _ rfl ?_;refine wpList_load_mid rfl 29 (.tmp 2) rfl w.heap.size 0 rfl (crL C) _ HCr.out underlying29 rfl Zaw ?_)
      |(go_at_call 64;refine Sb (hck _ HB.out) fun w1 hb=>?_;have HB:=Zab (Zac HB.out hb);have HCr:=Zab (HC.out.later hb).range;have HSr:=Zab (HS.out.later hb).range;clear hb))
     go_wp2_with (first
      |(refine Lq 29 _ rfl ?_;refine wpList_load_mid rfl 29 (.tmp 2) rfl w.heap.size 0 rfl (crL C) _ HCr.out underlying29 rfl Zaw ?_)
      |(refine Lq 41 _ rfl ?_;refine wpList_load_mid rfl 41 (.tmp 3) rfl (w.heap.size+1) 0 rfl (stL S) _ HSr.out underlying41 rfl Zbf ?_)
      |(go_at_call 65;refine(hsc _).mono ?_;rintro e w2 ⟨g,cap,Bs,b,x,y,rfl,hc,hs,hb⟩;have HB:=Zab (Zac HB.out hb);have HX:=Zab (And.intro hc hs);clear hb hc hs)
      |(go_at_call 57;refine Sb (HFE.out _ w HB.out _ _ _ _ _ _ HX.out.1 HX.out.2) fun w3 hb=>?_;have HB:=Zab (Zac HB.out hb);clear hb))
     go_ret;exact⟨rfl,HB.out⟩
   · rw[if_neg hf,Zbg (by decide)];simp only[Zbg hf] at HFE;generalize fstN (eSt C S sv) 8=fe at*
     go_enter func18,ntmps18
     go_upto_region 4 with(first
      |(refine Lq 29 _ rfl ?_;refine wpList_load_mid rfl 29 (.tmp 2) rfl w.heap.size 0 rfl (crL C) _ HCr.out underlying29 rfl Zaw ?_)
      |(go_at_call 64;refine Sb (hck _ HB.out) fun w1 hb=>?_;have HB:=Zab (Zac HB.out hb);have HCr:=Zab (HC.out.later hb).range;have HSr:=Zab (HS.out.later hb).range;clear hb))
     go_wp2_with (first
      |(refine Lq 29 _ rfl ?_;refine wpList_load_mid rfl 29 (.tmp 2) rfl w.heap.size 0 rfl (crL C) _ HCr.out underlying29 rfl Zaw ?_)
      |(refine Lq 41 _ rfl ?_;refine wpList_load_mid rfl 41 (.tmp 3) rfl (w.heap.size+1) 0 rfl (stL S) _ HSr.out underlying41 rfl Zbf ?_)
      |(go_at_call 65;refine(hsc _).mono ?_;rintro e w2 ⟨g,cap,Bs,b,x,y,rfl,hc,hs,hb⟩;have HB:=Zab (Zac HB.out hb);have HX:=Zab (And.intro hc hs);clear hb hc hs)
      |(go_at_call 57;refine Sb (HFE.out _ w HB.out _ _ _ _ _ _ HX.out.1 HX.out.2) fun w3 hb=>?_;have HB:=Zab (Zac HB.out hb);clear hb))
     go_ret;exact⟨rfl,HB.out⟩
 · have HE:Hid (stE C S sv=crE C):=Zab (by unfold stE;rw[if_neg h0]);rw[HE.out,Zbg h0];simp only[Zbg h0] at hck;generalize crE C=ce at *;clear hg hl hv
   go_enter func18,ntmps18
   go_wp2_with (first
    |(refine Lq 29 _ rfl ?_;refine wpList_load_mid rfl 29 (.tmp 2) rfl w.heap.size 0 rfl (crL C) _ HCr.out underlying29 rfl Zaw ?_)
    |(go_at_call 64;refine Sb (hck _ HB.out) fun w1 hb=>?_;have HB:=Zab (Zac HB.out hb);clear hb))
   go_ret;exact⟨rfl,HB.out⟩
theorem infoVs2:(prog.info? 36).map (·.size)=some 2:=by kernel_rfl
def spL(S:FS):List Value:=[.slice (S.sp 0) (S.sn 0) (S.sc 0),.slice (S.sp 1) (S.sn 1) (S.sc 1)]
theorem fr_servos(S:FS)(C:CR)(x:Value):((frL S C x).drop 21).take 2=spL S:=rfl
theorem svidx(S:FS)(i:Nat)(hi:i<2)(w:World):(Instr.index 36 (.agg (spL S).toArray) (Vi (i:Int))).run prog w=.ok (.slice (S.sp i) (S.sn i) (S.sc i)) w:=by
 rcases(show i=0∨i=1 by omega) with rfl|rfl<;>kernel_rfl
def rd1(i:Nat)(L:List Sv)(k:Nat):Rd:=(64+4*(i:Int)+(k:Int),3,(if(svAt L k).2.2 then 0 else 3),(svAt L k).1)
def rdU(i:Nat)(L:List Sv):Nat→List Rd
 |0=>[]
 |k+1=>rdU i L k++[rd1 i L k]
def rdX(sv:Nat→List Sv):Nat→List Rd
 |0=>[]
 |i+1=>rdX sv i++rdU i (sv i) (sv i).length
def rdA(sv:Nat→List Sv)(n:Int):List Rd:=rdX sv 2++[(80,3,3,n)]
theorem Zfo(i:Nat)(L:List Sv):∀k,(rdU i L k).length=k
 |0=>rfl
 |k+1=>by rw[rdU,List.length_append,Zfo i L k];rfl
theorem rdX_len(sv:Nat→List Sv)(h:∀i,i<2→(sv i).length≤9):∀i,i≤2→(rdX sv i).length≤9*i
 |0,_=>by simp[rdX]
 |i+1,hi=>by
  have a:=rdX_len sv h i (by omega);have b:=h i (by omega);rw[rdX,List.length_append,Zfo];omega
theorem encL_four:∀(l:List Rd) (k:Nat),k<l.length→(encL l)[k*4]?=some (Vi (rat l k).1)∧(encL l)[k*4+1]?=some (Vi (rat l k).2.1)∧(encL l)[k*4+2]?=some (Vi (rat l k).2.2.1)∧(encL l)[k*4+3]?=some (Vi (rat l k).2.2.2)
 |[],_,h=>by simp at h
 |r::l,0,_=>⟨rfl,rfl,rfl,rfl⟩
 |r::l,k+1,h=>by
  have:=encL_four l k (by simpa using h);have e:encL (r::l)=Vi r.1::Vi r.2.1::Vi r.2.2.1::Vi r.2.2.2::encL l:=rfl;rw[e,show(k+1)*4=k*4+1+1+1+1 by omega]
  simpa[rat,Nat.add_right_comm] using this
theorem rds_of_row{w:World}{B g cap n:Nat}{e:TypeId}{l:List Rd}(hn:n=l.length)(h:w.ownsRow B e 4 (.slice (some (Ad g 0)) n cap) n (encL l)):Rds w (some (Ad g 0)) l:=by
 subst hn;refine .inr ⟨g,rfl,fun k hk=>?_⟩;have f:=encL_four l k hk;exact⟨(h.cellAt (k*4) (by omega)).trans f.1,(h.cellAt (k*4+1) (by omega)).trans f.2.1,(h.cellAt (k*4+2) (by omega)).trans f.2.2.1,(h.cellAt (k*4+3) (by omega)).trans f.2.2.2⟩
theorem own_apart{w:World}{base:Nat}{e:TypeId}{size:Nat}{v:Value}{n:Nat}{xs:List Value}(h:w.ownsRow base e size v n xs):some w.heap.size≠v.ownBlock:=fun e=>by have:=(h.lt _ e.symm).2;omega
theorem rS_later{w u u':World}{P:Nat}{cs:List Value}(hb:Below u.heap.size u u')(h:Below w.heap.size w u∧u.rangeAt P 0 cs):Below w.heap.size w u'∧u'.rangeAt P 0 cs:=⟨Zac h.1 hb,Zae h.2 hb⟩
theorem rS_grown{w u u':World}{P:Nat}{cs:List Value}{row:Option Nat}(hg:u.grownBy u' row)(hr:∀k,row=some k→w.heap.size≤k)(hP:some P≠row)(h:Below w.heap.size w u∧u.rangeAt P 0 cs):Below w.heap.size w u'∧u'.rangeAt P 0 cs:=⟨h.1.grown hg h.1.size hr,fun j v hj=>hg.cell (h.2 j v hj) hP⟩
theorem readings_ok{K:Nat}{wz w:World}{B:Nat}{S:FS}{C:CR}{a:Option Addr}{cap:Nat}{l:List Rd}{sv:Nat→List Sv}{G:Nat→Nat}(hf:FR K wz w B S C a cap l sv G)(hl:∀i,i<2→(sv i).length≤9):
 Calls prog 114 #[.pointer (some (Ad B 0))] w fun e w'=>(∃g c,e=.returned (.slice (some (Ad g 0)) (rdA sv S.n).length c)∧Rds w' (some (Ad g 0)) (rdA sv S.n))∧Below w.heap.size w w':=by
 obtain⟨i0,hi4,hz0,hz1,hz2⟩:=info_parts rd_info;have HF:=Zab hf;have HL:=Zab hl;have HR:=Zab (hf.blk.sub 21 2);rw[fr_servos] at HR;have HXL:=Zab (rdX_len sv hl);clear hf hl
 go_enter func114,ntmps114
 go_upto_region 3 with(refine Lq 36 _ rfl ?_;refine wpList_load_mid rfl 36 (.tmp 11) rfl B 21 rfl (spL S) _ HR.out underlying36 rfl infoVs2 ?_);clear HR
 go_loopw [3,13] (fun s0 ix wr=>∃i:Nat,i≤2∧ix=Vi i∧wr.ownsRow w.heap.size 161 4 s0 (rdX sv i).length (encL (rdX sv i))∧Below w.heap.size w wr) (fun _ ix _=>2-(intOf ix).toNat)
 case atStart=>exact⟨0,by omega,rfl,World.ownsRow_nil _ _ _ _,Below.refl _ _⟩
 case round=>
  obtain⟨i,hi2,rfl,hown,hbw⟩:=hrel
  by_cases hi:i<2
  · have hidx:=svidx S i hi
    have i1:(0:Int)≤(i:Int):=by omega
    have i2:(i:Int)<2:=by omega
    have hsp:S.sp i=some (Ad (G i) 0):=(HF.out.servo i hi).1;obtain⟨n,hn⟩:∃n,n=(sv i).length:=⟨_,rfl⟩
    have hsn:S.sn i=n:=by rw[hn];exact(HF.out.servo i hi).2.1
    rw[hsp,hsn] at hidx
    have hn9:n≤9:=by rw[hn];exact HL.out i hi
    go_upto_region 6 with fail
    go_loopw [3,19] (fun s1 ix wr=>∃k:Nat,k≤n∧ix=Vi k∧wr.ownsRow w.heap.size 161 4 s1 ((rdX sv i).length+k) (encL (rdX sv i++rdU i (sv i) k))∧Below w.heap.size w wr) (fun _ ix _=>n-(intOf ix).toNat)
    case atStart=>exact⟨0,Nat.zero_le _,rfl,by rw[rdU,List.append_nil];exact hown,hbw⟩
    case round=>
     clear hown hbw;obtain⟨k,hk,rfl,hown,hbw⟩:=hrel
     by_cases hlt:k<n
     · have g:=((HF.out.later hbw).servo i hi).2.2.1.sub (k*3) 3;rw[svL_at _ k (by omega)] at g;have c0:wr.cell? (Ad (G i) (k*3))=some (Vi (svAt (sv i) k).1):=g 0 _ rfl;have c1:wr.cell? (Ad (G i) (k*3+1))=some (Vi (svAt (sv i) k).2.1):=g 1 _ rfl;have c2:wr.cell? (Ad (G i) (k*3+2))=some (.bool (svAt (sv i) k).2.2):=g 2 _ rfl;have HRD:Hid (rd1 i (sv i) k=(64+4*(i:Int)+(k:Int),3,(if(svAt (sv i) k).2.2 then 0 else 3),(svAt (sv i) k).1)):=Zab rfl;have hul:=fun u=>(Zim 64 (i:Int) (k:Int) (by omega) (by omega) (by omega) u).mono (fun _ w' h=>And.intro h.1 (show Below u.heap.size u w' by rw[h.2];exact Below.refl _ _));have hst:=status_any (svAt (sv i) k).1 (svAt (sv i) k).2.1 (svAt (sv i) k).2.2;generalize (if(svAt (sv i) k).2.2 then(0:Int) else 3)=st at *;generalize (svAt (sv i) k).1=si at *;generalize (svAt (sv i) k).2.1=sb at *;generalize (svAt (sv i) k).2.2=so at *;generalize 64+4*(i:Int)+(k:Int)=lb at*
       have k0:(0:Int)≤(k:Int):=by omega
       have k1:(k:Int)<(n:Int):=by omega
       have hxl:=HXL.out i (by omega);have HB0:=Zab (Zac hbw (Zaa wr (.cells #[Vi si,Vi sb,.bool so] 116)));have HOW:=Zab (hown.alloc (.cells #[Vi si,Vi sb,.bool so] 116));have HP:Hid (Blk 116 (wr.alloc (.cells #[Vi si,Vi sb,.bool so] 116)) wr.heap.size [Vi si,Vi sb,.bool so]):=Zab (Blk.new wr _ [Vi si,Vi sb,.bool so]);have HPR:=Zab (own_apart hown);clear g hown hbw
       go_upto_region 8 with fail;clear c0 c1 c2;generalize wr.alloc (.cells #[Vi si,Vi sb,.bool so] 116)=v7 at *;generalize wr.heap.size=P7 at HP HPR⊢;have HOW:=Zab (Zaz HOW.out (Below.refl _ _).drew);have HX0:Hid (Below w.heap.size w v7.drew∧v7.drew.rangeAt P7 0 [Vi si,Vi sb,.bool so]):=Zab ⟨Zac HB0.out (Below.refl _ _).drew,(HP.out.later (Below.refl _ _).drew).range⟩;clear HB0 HP;refine wp_region_held_drew (S:=fun u=>(Below w.heap.size w u∧u.rangeAt P7 0 [Vi si,Vi sb,.bool so])) (by kernel_rfl) (HX0.out) (fun _=>?_);have HS0:Hid ((Below w.heap.size w v7.drew∧v7.drew.rangeAt P7 0 [Vi si,Vi sb,.bool so])):=Zab (HX0.out);refine Tq 0 HS0.out ?_;simp only[Act.put,Ly];refine Tq 1 HS0.out ?_;simp only[Act.put,Ly];refine Tq 2 HS0.out ?_;simp only[Act.put,Ly];refine Tk 4 rfl (yieldsIf_load_mid (by rfl) 116 (.tmp 7) rfl P7 0 rfl [Vi si,Vi sb,.bool so] _ (fun w hSw=>hSw.2) underlying116 rfl Zgl) HS0.out ?_;simp only[Act.put,Ly];refine Tq 6 HS0.out ?_;simp only[Act.put,Ly];refine Th 7 rfl (by intro w hSw;(try dsimp only at hSw);have y:w.cell? (Ad P7 0)=_:=hSw.2 0 _ rfl;clear hSw;go_simp;(try with_reducible rfl)) HS0.out ?_;simp only[Act.put,Ly];refine Ra 3 (fun K hK=>?_);go_simp;refine Sb (hul _) fun u1 hb=>?_;have HS1:=Zab (rS_later hb HS0.out);have HOW:=Zab (Zaz HOW.out hb);clear hb;go_wp2_with fail;refine hK.out _ _ HS1.out (fun _=>?_);clear hK K;(try simp only[Act.put]);refine Ra 5 (fun K hK=>?_);go_simp;refine Sb (hst _) fun u2 hb=>?_;have HS2:=Zab (rS_later hb HS1.out);have HOW:=Zab (Zaz HOW.out hb);clear hb;go_wp2_with fail;refine hK.out _ _ HS2.out (fun _=>?_);clear hK K;(try simp only[Act.put]);clear HS1;refine Tq 8 HS2.out ?_;simp only[Act.put,Ly];refine Ra 9 (fun K hK=>?_);go_simp;have HS3:=Zab (rS_later (Zaa u2 (.cells #[Vi lb,Vi 3,Vi st,Vi si] 161)) HS2.out);have HOW:=Zab (HOW.out.alloc (.cells #[Vi lb,Vi 3,Vi st,Vi si] 161));have HNW:=Zab (Zcl u2 (lb,3,st,si));generalize u2.alloc (.cells #[Vi lb,Vi 3,Vi st,Vi si] 161)=u3 at HS3 HOW HNW⊢;generalize u2.heap.size=X9 at HNW⊢;refine hK.out _ _ HS3.out (fun _=>?_);clear hK K;(try simp only[Act.put]);clear HS2;refine Ra 10 (fun K hK=>?_);simp only[Ly];rw[if_pos (by rfl)]
       refine wp_append_lies _ (.tmp 24) (.tmp 33) 118 rfl w.heap.size 161 i0 (.agg #[Vi 0,Vi 0,Vi 0,Vi 0]) 4 32 Zbj hi4 hz0 hz1 hz2 rfl (by decide) _ _ _ rfl HOW.out ⟨X9,0,none⟩ 1 1 (encR (lb,3,st,si)) rfl rfl HNW.out (Zdt _) (by omega) (by unfold maxLen;omega) (by omega) HS3.out.1.size _ rfl ?_;intro g9 c9 u4 hown hgrow hat hlt9;have HS4:=Zab (rS_grown hgrow (fun q hq=>(HOW.out.lt q hq).1) HPR.out HS3.out);have HOW:=Zab hown;clear hown hgrow hat hlt9;refine hK.out _ _ HS4.out (fun _=>?_);clear hK K;(try simp only[Act.put]);clear HS3;refine Tq 11 HS4.out ?_;simp only[Act.put,Ly];refine wpAnyH_done (by kernel_rfl) ?_ _;go_simp;have hB:=HS4.out.1;clear HS4;generalize u4=v8 at hB HOW⊢;refine Zby (by assumption) ?_;go_wp2_with fail;go_roundw
       case rel=>exact⟨k+1,by omega,by go_num,by rw[rdU,←List.append_assoc,encL_snoc,HRD.out];exact HOW.out,hB⟩
       case measure=>simp[intOf];omega
     · obtain rfl:k=n:=by omega
       go_wp2_with fail;go_roundw
       case rel=>exact⟨i+1,by omega,by go_num,by rw[rdX,List.length_append,Zfo,←hn];exact hown,hbw⟩
       case measure=>simp[intOf];omega
  · obtain rfl:i=2:=by omega
    have hlw:=((HF.out.later hbw).blk.cell (fr_law S C _)).1;have hxl:=HXL.out 2 (by omega);have HOW:=Zab hown;have HB:=Zab hbw;clear hown hbw
    go_wp2_with (at_builtin;refine wpList_append_lies _ rfl _ _ 118 rfl w.heap.size 161 i0 (.agg #[Vi 0,Vi 0,Vi 0,Vi 0]) 4 32 Zbj hi4 hz0 hz1 hz2 rfl (by decide) _ _ _ rfl (HOW.out.alloc _) ⟨wr.heap.size,0,none⟩ 1 1 (encR (80,3,3,S.n)) rfl rfl (Zcl wr (80,3,3,S.n)) (Zdt _) (by omega) (by unfold maxLen;omega) (by omega) (Zac HB.out (Zaa _ _)).size _ rfl ?_;intro g9 c9 v9 hown hgrow hat hlt9);have HE:=Zab hown;have HB9:=Zab ((Zac HB.out (Zaa _ _)).grown hgrow (Zac HB.out (Zaa _ _)).size (fun q hq=>(HOW.out.lt q hq).1));clear hown hgrow hat hlt9;go_ret;refine⟨⟨g9,c9,?_,?_⟩,HB9.out⟩
    · rw[rdA,List.length_append];rfl
    · exact rds_of_row (n:=(rdX sv 2).length+1) (by simp[rdA]) (by rw[rdA,encL_snoc];exact HE.out)
def U32s(w:World)(a:Option Addr)(zs:List Int):Prop:=zs=[]∨∃g,a=some (Ad g 0)∧∀k,k<zs.length→w.cell? (Ad g k)=some (.int .u32 (zs.getD k 0))
theorem U32s.later{w w':World}{a:Option Addr}{zs:List Int}(h:U32s w a zs)(hb:Below w.heap.size w w'):U32s w' a zs:=by
 rcases h with h|⟨g,h,hc⟩
 · exact .inl h
 · exact .inr ⟨g,h,fun k hk=>cell_later hb (hc k hk)⟩
theorem infoU32:(prog.info? 136).map (fun i=>(i.zero,i.size,i.bytes))=some (some (.int .u32 0),1,4):=by kernel_rfl
def pk1(r:Rd):Int:=Zcy r.1 r.2.1 r.2.2.1 r.2.2.2
def pkU(l:List Rd):Nat→List Int
 |0=>[]
 |k+1=>pkU l k++[pk1 (rat l k)]
theorem pkU_len(l:List Rd):∀k,(pkU l k).length=k
 |0=>rfl
 |k+1=>by rw[pkU,List.length_append,pkU_len l k];rfl
def Zfa(r:Rd):Bool:=mayR r.1 r.2.1 r.2.2.1 r.2.2.2
theorem u32_of_row{w:World}{B g cap n:Nat}{e:TypeId}{zs:List Int}(hn:n=zs.length)(h:w.ownsRow B e 1 (.slice (some (Ad g 0)) n cap) n (zs.map (Value.int .u32))):U32s w (some (Ad g 0)) zs:=by
 subst hn;refine .inr ⟨g,rfl,fun k hk=>?_⟩;rw[h.cellAt k (by omega),List.getElem?_map,List.getD_eq_getElem?_getD,List.getElem?_eq_getElem hk]
 rfl
theorem packAll_ok(a:Option Addr)(cap:Nat)(l:List Rd)(h1:1≤l.length)(hl:l.length≤1000)(hm:∀k,k<l.length→Zfa (rat l k)=true)(w:World)(hr:Rds w a l):
 Calls prog 113 #[.slice a l.length cap] w fun e w'=>(∃g c,e=.returned (.tuple #[.slice (some (Ad g 0)) l.length c,.nilIface])∧w.heap.size≤g∧U32s w' (some (Ad g 0)) (pkU l l.length))∧Below w.heap.size w w':=by
 obtain⟨i0,hi4,hz0,hz1,hz2⟩:=info_parts infoU32;have HR:=Zab hr;have HM:=Zab hm;clear hr hm
 go_enter func113,ntmps113
 go_upto_region 3 with fail
 go_loopw [4,11] (fun s0 ix wr=>∃k:Nat,k≤l.length∧ix=Vi k∧wr.ownsRow w.heap.size 136 1 s0 k ((pkU l k).map (Value.int .u32))∧Below w.heap.size w wr) (fun _ ix _=>l.length-(intOf ix).toNat)
 case atStart=>exact⟨0,by omega,rfl,World.ownsRow_nil _ _ _ _,Below.refl _ _⟩
 case round=>
  obtain⟨k,hk,rfl,hown,hbw⟩:=hrel
  by_cases hlt:k<l.length
  · obtain⟨g,rfl,c0,c1,c2,c3⟩:=(HR.out.later hbw).at hlt;have hpk:=pack_yes (rat l k).1 (rat l k).2.1 (rat l k).2.2.1 (rat l k).2.2.2 (HM.out k hlt);have HPE:Hid (Zcy (rat l k).1 (rat l k).2.1 (rat l k).2.2.1 (rat l k).2.2.2=pk1 (rat l k)):=Zab rfl;rw[HPE.out] at hpk;generalize hz:pk1 (rat l k)=z at *;generalize (rat l k).1=r0 at *;generalize (rat l k).2.1=r1 at *;generalize (rat l k).2.2.1=r2 at *;generalize (rat l k).2.2.2=r3 at*
    have k0:(0:Int)≤(k:Int):=by omega
    have k1:(k:Int)<(l.length:Int):=by omega
    have HOW:=Zab hown;have HB:=Zab hbw;clear hown hbw HPE
    go_wp2_with (first
     |(go_at_call 84;refine Sb (hpk _) fun u1 hb=>?_;have HB:=Zab (Zac (Zac HB.out (Zaa _ _)) hb);have HOW:=Zab (Zaz (HOW.out.alloc _) hb);clear hb)
     |(at_builtin;refine wpList_append_lies _ rfl _ _ 42 rfl w.heap.size 136 i0 (.int .u32 0) 1 4 underlying42 hi4 hz0 hz1 hz2 rfl (by decide) _ _ _ rfl (HOW.out.alloc _) ⟨u1.heap.size,0,none⟩ 1 1 [.int .u32 z] rfl rfl (f1new u1 _ _) (fun x hx=>by simp at hx;subst hx;rfl) (by omega) (by unfold maxLen;omega) (by omega) (Zac HB.out (Zaa _ _)).size _ rfl ?_;intro g9 c9 v9 hown hgrow hat hlt9;have HE:=Zab hown;have HB9:=Zab ((Zac HB.out (Zaa _ _)).grown hgrow (Zac HB.out (Zaa _ _)).size (fun q hq=>(HOW.out.lt q hq).1));clear hown hgrow hat hlt9))
    go_roundw
    case rel=>exact⟨k+1,by omega,by go_num,by rw[pkU,List.map_append,hz];exact HE.out,HB9.out⟩
    case measure=>simp[intOf];omega
  · obtain rfl:k=l.length:=by omega
    obtain⟨g,c,hv,hg0,hg1⟩:=hown.form (by omega);subst hv;have HW:=Zab (u32_of_row (pkU_len l _).symm hown);clear hown;go_wp2_with fail;go_ret2;exact⟨⟨g,c,rfl,hg0,HW.out⟩,hbw⟩
theorem tell_ok{K:Nat}{wz w:World}{B:Nat}{S:FS}{C:CR}{a:Option Addr}{cap:Nat}{l:List Rd}{sv:Nat→List Sv}{G:Nat→Nat}(hf:FR K wz w B S C a cap l sv G)(hl:∀i,i<2→(sv i).length≤9)(hm:∀k,k<(rdA sv S.n).length→Zfa (rat (rdA sv S.n) k)=true):
 Calls prog 62 #[.pointer (some (Ad B 0))] w fun e w'=>(∃g c,e=.returned (.tuple #[.slice (some (Ad g 0)) (rdA sv S.n).length c,.nilIface])∧w.heap.size≤g∧U32s w' (some (Ad g 0)) (pkU (rdA sv S.n) (rdA sv S.n).length))∧Below w.heap.size w w':=by
 have hrd:=readings_ok hf hl
 have h1:1≤(rdA sv S.n).length:=by simp[rdA]
 have h2:(rdA sv S.n).length≤1000:=by have:=rdX_len sv hl 2 (by omega);simp[rdA];omega
 have hpa:=fun g c u h=>packAll_ok (some (Ad g 0)) c (rdA sv S.n) h1 h2 hm u h;clear hf
 go_enter func62,ntmps62
 go_wp2_with (first
  |(go_at_call 114;refine hrd.mono ?_;rintro e u ⟨⟨g,c,rfl,hr⟩,hb⟩;have HR:=Zab hr;have HB:=Zab hb;clear hr hb)
  |(go_at_call 113;refine(hpa _ _ _ HR.out).mono ?_;rintro e v ⟨⟨x,d,rfl,hx,hw⟩,hb⟩;have HW:=Zab hw;have HX:=Zab (Nat.le_trans HB.out.size hx);have HB2:=Zab (Zac HB.out hb);clear hx hw hb))
 go_ret2;exact⟨⟨_,_,rfl,HX.out,HW.out⟩,HB2.out⟩
def ZS(w:World)(a:Option Addr)(n:Nat):Prop:=n=0∨∃b off,a=some (Ad b off)∧∀k,k<n→w.cell? (Ad b (off+k*3))=some (Vi 0)∧w.cell? (Ad b (off+k*3+1))=some (Vi 0)∧w.cell? (Ad b (off+k*3+2))=some (.bool false)
theorem ZS.later{w w':World}{a:Option Addr}{n:Nat}(h:ZS w a n)(hb:Below w.heap.size w w'):ZS w' a n:=by
 rcases h with h|⟨b,off,h,hc⟩
 · exact .inl h
 · exact .inr ⟨b,off,h,fun k hk=>⟨cell_later hb (hc k hk).1,cell_later hb (hc k hk).2.1,cell_later hb (hc k hk).2.2⟩⟩
theorem ZS.at{w:World}{a:Option Addr}{n k:Nat}(h:ZS w a n)(hk:k<n):∃b off,a=some (Ad b off)∧w.cell? (Ad b (off+k*3))=some (Vi 0)∧w.cell? (Ad b (off+k*3+1))=some (Vi 0)∧w.cell? (Ad b (off+k*3+2))=some (.bool false):=by
 rcases h with rfl|⟨b,off,h,hc⟩
 · omega
 · exact⟨b,off,h,hc k hk⟩
def StH(u:World)(B:Nat)(cs:List Value):Prop:=u.heap[B]?=some (.cells cs.toArray 41 (0,0))
theorem StH.lt{u:World}{B:Nat}{cs:List Value}(h:StH u B cs):B<u.heap.size:=(Array.getElem?_eq_some_iff.1 h).1
theorem StH.later{u u':World}{B:Nat}{cs:List Value}(h:StH u B cs)(hb:Below u.heap.size u u'):StH u' B cs:=(hb.block B h.lt).trans h
theorem StH.cell{u:World}{B:Nat}{cs:List Value}(h:StH u B cs){j:Nat}{v:Value}(hv:cs[j]?=some v):u.cell? (Ad B j)=some v∧u.frozen? (Ad B j)=false:=by
 unfold StH at h
 constructor
 · simp only[World.cell?,h];simp only[Option.isSome_none,Bool.false_eq_true,if_false]
   simpa using hv
 · simp[World.frozen?,h]
theorem StH.range{u:World}{B:Nat}{cs:List Value}(h:StH u B cs):u.rangeAt B 0 cs:=fun j v hv=>by rw[Nat.zero_add];exact(h.cell hv).1
theorem StH.there{u:World}{B:Nat}{cs:List Value}(h:StH u B cs){n:Nat}(hn:n=cs.length):u.there B 0 n:=fun j hj=>by
 subst hn;have:=h.cell (List.getElem?_eq_getElem hj);rw[Nat.zero_add];exact⟨by rw[this.1];rfl,this.2⟩
theorem StH.set{u:World}{B:Nat}{cs:List Value}(h:StH u B cs)(j:Nat)(v:Value):StH (u.setCell (Ad B j) v) B (cs.set j v):=by
 unfold StH at h⊢
 rw[heap_setCell_same u B j cs.toArray 41 v h]
 simp
theorem StH.far{u:World}{B V:Nat}{cs:List Value}(h:StH u B cs)(hV:B≠V)(j:Nat)(v:Value):StH (u.setCell (Ad V j) v) B cs:=(heap_setCell_other u ⟨V,j,none⟩ B v hV).trans h
theorem CrH.far{u:World}{B V:Nat}{cs:List Value}(h:CrH u B cs)(hV:B≠V)(j:Nat)(v:Value):CrH (u.setCell (Ad V j) v) B cs:=(heap_setCell_other u ⟨V,j,none⟩ B v hV).trans h
theorem ZS.far{u:World}{a:Option Addr}{n V j:Nat}{v:Value}(h:ZS u a n)(hV:∀b off,a=some (Ad b off)→b≠V):ZS (u.setCell (Ad V j) v) a n:=by
 rcases h with h|⟨b,off,h,hc⟩
 · exact .inl h
 · have f:∀o y,u.cell? (Ad b o)=some y→(u.setCell (Ad V j) v).cell? (Ad b o)=some y:=fun o y hy=>(World.cell?_setCell_other _ _ _ _ (fun e=>hV b off h (congrArg Addr.block e).symm)).trans hy;exact .inr ⟨b,off,h,fun k hk=>⟨f _ _ (hc k hk).1,f _ _ (hc k hk).2.1,f _ _ (hc k hk).2.2⟩⟩
theorem Zfg{ops:Array Oper}{rest:List Oper}{op:Oper}{a:Act}{w:World}{Q:Exit→Act→World→Prop}{c c':Array Value}(x y:Operand)(hgd:op.guard=none)(ho:op.op=.store 41 x y)
 (hx:a.eval x=.pointer (some (Ad w.heap.size 0))) (hy:a.eval y=.agg c') (hs:c'.size=30) (hc:c.size=c'.size) (h1:c'.all (·.oneCell')=true)
 (h:wpList prog ops Q rest (a.put op.dst undef) (w.alloc (.cells c' 41))):wpList prog ops Q (op::rest) a (w.alloc (.cells c 41)):=
 wpList_plain hgd fun _ hK=>by
  unfold Oper.wp execOp
  simp only[ho,hx,hy,Sem.run_bind,Sem.run_pure,Result.andThen_ok,run_storeAt_new w 41 c c' (by rw[Zbf,hs]) hc h1];exact hK _ _ h
theorem infoV:(prog.info? 116).map (fun i=>(i.zero,i.size,i.bytes))=some (some (.agg #[Vi 0,Vi 0,.bool false]),3,24):=by kernel_rfl
theorem Zft(n:Nat)(hn:n≤9)(w:World):(Instr.makeSlice 35 (Vi (n:Int)) (Vi (n:Int))).run prog w=.ok (.slice (some (Ad w.heap.size 0)) n n) (w.alloc (.cells (madeCells #[Vi 0,Vi 0,.bool false] (n*3)) 116)):=by
 cases hh:prog.info? 116 with
 |none=>have h:=infoV;rw[hh] at h;cases h
 |some i0=>
  have h:=infoV;rw[hh] at h;simp only[Option.map_some,Option.some.injEq,Prod.mk.injEq] at h;have g:=run_make (P:=prog) (w:=w) 35 116 i0 (.agg #[Vi 0,Vi 0,.bool false]) underlying35 hh h.1 .i64 .i64 (n:Int) (n:Int) (by omega) (by omega) (by rw[h.2.2];omega) (by omega);rw[h.2.1,Int.toNat_natCast] at g;exact g
theorem made_at(n k j:Nat)(hk:k<n)(hj:j<3):(madeCells #[Vi 0,Vi 0,.bool false] (n*3))[k*3+j]?=(#[Vi 0,Vi 0,.bool false]:Array Value)[j]?:=by
 have h:k*3+j<n*3:=by omega
 unfold madeCells
 rw[Array.getElem?_map,Array.getElem?_eq_getElem (by simpa using h)];simp only[Array.getElem_range,Option.map_some]
 have e:(k*3+j)%3=j:=by omega
 show some ((#[Vi 0,Vi 0,.bool false]:Array Value)[(k*3+j)%3]!)=_
 rw[e]
 rcases(show j=0∨j=1∨j=2 by omega) with rfl|rfl|rfl<;>rfl
theorem zs_made(n:Nat)(w:World):ZS (w.alloc (.cells (madeCells #[Vi 0,Vi 0,.bool false] (n*3)) 116)) (some (Ad w.heap.size 0)) n:=by
 refine .inr ⟨w.heap.size,0,rfl,fun k hk=>?_⟩;have hh:=World.alloc_heap_new w (.cells (madeCells #[Vi 0,Vi 0,.bool false] (n*3)) 116)
 have f:∀j v,j<3→(#[Vi 0,Vi 0,.bool false]:Array Value)[j]?=some v→(w.alloc (.cells (madeCells #[Vi 0,Vi 0,.bool false] (n*3)) 116)).cell? (Ad w.heap.size (0+k*3+j))=some v:=fun j v hj hv=>by
  simp only[World.cell?,hh,Nat.zero_add];simp only[Option.isSome_none,Bool.false_eq_true,if_false];rw[made_at n k j hk hj];exact hv
 exact⟨f 0 _ (by omega) rfl,f 1 _ (by omega) rfl,f 2 _ (by omega) rfl⟩
theorem res_new(tmps:Array Value)(U:World)(Y:Nat)(cs:List Value)(h2:tmps.getD 2 undef=.pointer (some (Ad Y 0)))(hR:U.rangeAt Y 0 cs)(hn:cs.length=30):
 (results Tryz.f69 tmps).run prog U=.ok (.agg cs.toArray) U:=by
 have h3:tmps[2]?.getD undef=.pointer (some (Ad Y 0)):=by simpa using h2
 simp[results,results69,h3,asAddr,run_loadVar_mid U Y 0 41 cs _ hR underlying41 rfl (by rw[Zbf,hn])]
theorem Zgt{K b:Nat}{w0:World}:∀(vs:List Value) (o:Nat) (w:World),Below K w0 w→K≤b→Below K w0 (w.setCells b o vs)
 |[],_,_,h,_=>h
 |v::r,o,w,h,hb=>Zgt r (o+1) (w.setCell ⟨b,o,none⟩ v) (h.setCell (by simpa using hb) v) hb
theorem Zgs{a:Option Addr}{n V:Nat}(hV:∀b off,a=some (Ad b off)→b≠V):∀(vs:List Value) (o:Nat) (w:World),ZS w a n→ZS (w.setCells V o vs) a n
 |[],_,_,h=>h
 |v::r,o,w,h=>Zgs hV r (o+1) (w.setCell ⟨V,o,none⟩ v) (h.far hV)
theorem run_copy_wide{P:Program}(w:World)(dT sT ty elem:TypeId)(b o n dCap:Nat)(a:Addr)(sCap sz:Nat)(cs:List Value)
 (hu:P.underlying dT=some (.slice elem)) (hs:(P.info? elem).map (·.size)=some sz) (hn:cs.length=n*sz)
 (hsrc:∀j v,cs[j]?=some v→w.cell? (a.add j)=some v) (hc:∀j,j<cs.length→(w.cell? (Ad b (o+j))).isSome=true) (hf:∀j,j<cs.length→w.frozen? (Ad b (o+j))=false) (h1:∀v∈cs,v.oneCell'=true):
 (Builtin.copy_ #[dT,sT] ty #[.slice (some (Ad b o)) n dCap,.slice (some a) n sCap]).run P w=.ok (goInt n) (w.setCells b o cs):=by
 have hl:=run_loadCells_list (P:=P) w a cs hsrc;have hst:=run_storeCells_cells (P:=P) b o cs 0 w (by simpa using hc) (by simpa using hf) h1
 cases hq:P.info? elem with
 |none=>simp[hq] at hs
 |some i=>
  have hi:i.size=sz:=by simpa[hq] using hs
  simp[Builtin.copy_,run_underlying hu,Builtin.lenOf,Builtin.firstCells,sizeOf,typeInfo,hq,hi,←hn,hl,hst]
theorem Zgi{P:Program}{w:World}{ops:Array Oper}{rest:List Oper}{o:Oper}{a:Act}{Q:Exit→Act→World→Prop}(hgd:o.guard=none)(d s:Operand)(dT sT:TypeId)
 (ho:o.op=.call { callee:=.builtin .copy,args:=#[d,s],argTypes:=#[dT,sT] }) (elem:TypeId) (hu:P.underlying dT=some (.slice elem)) (sz:Nat) (hsz:(P.info? elem).map (·.size)=some sz)
 (g off n dCap:Nat) (ad:Addr) (sCap:Nat) (hd:a.eval d=.slice (some (Ad g off)) n dCap) (hs:a.eval s=.slice (some ad) n sCap)
 (cs:List Value) (hn:cs.length=n*sz) (hsrc:∀j v,cs[j]?=some v→w.cell? (ad.add j)=some v) (ht:w.there g off cs.length) (h1:∀v∈cs,v.oneCell'=true)
 (h:wpList P ops Q rest (a.put o.dst (goInt n)) (w.setCells g off cs)):wpList P ops Q (o::rest) a w:=by
 refine wpList_plain hgd fun K hK=>?_;have hrun:=run_copy_wide (P:=P) w dT sT o.type elem g off n dCap ad sCap sz cs hu hsz hn hsrc (fun j hj=>(ht j hj).1) (fun j hj=>(ht j hj).2) h1
 unfold Oper.wp
 simp[execOp,ho,resolve,invoke,builtin,hd,hs,hrun,Result.andThen]
 exact hK _ _ h
theorem Zip(L:List Sv){k r:Nat}(hk:k<L.length)(hr:r<3):(svL L)[k*3+r]?=[Vi (svAt L k).1,Vi (svAt L k).2.1,.bool (svAt L k).2.2][r]?:=by
 rw[←svL_at L k hk,List.getElem?_take,if_pos hr,List.getElem?_drop]
theorem vls_src{u:World}{ad:Addr}{L:List Sv}(h1:1≤L.length)(h:VLs u (some ad) L):∀j v,(svL L)[j]?=some v→u.cell? (ad.add j)=some v:=by
 intro j v hj
 rcases h with h|⟨b,off,h,hc⟩
 · subst h;simp at h1
 · simp only[Option.some.injEq] at h;subst h
   have hlt:j<L.length*3:=by
    have:=(List.getElem?_eq_some_iff.1 hj).1
    rwa[Zfj] at this
   have hk:j/3<L.length:=by omega
   have hr:j%3<3:=by omega
   have e:j=j/3*3+j%3:=by omega
   rw[e,Zip L hk hr] at hj;have c:=hc (j/3) hk;rw[Addr.add_lit]
   rcases(show j%3=0∨j%3=1∨j%3=2 by omega) with h3|h3|h3
   · rw[h3] at hj
     have:v=Vi (svAt L (j/3)).1:=by simpa using hj.symm
     rw[this,show off+j=off+j/3*3 by omega];exact c.1
   · rw[h3] at hj
     have:v=Vi (svAt L (j/3)).2.1:=by simpa using hj.symm
     rw[this,show off+j=off+j/3*3+1 by omega];exact c.2.1
   · rw[h3] at hj
     have:v=.bool (svAt L (j/3)).2.2:=by simpa using hj.symm
     rw[this,show off+j=off+j/3*3+2 by omega];exact c.2.2
theorem svL_one:∀(L:List Sv),∀v∈svL L,v.oneCell'=true
 |[],_,h=>by cases h
 |s::r,v,h=>by
  simp only[svL,List.mem_cons] at h
  rcases h with rfl|rfl|rfl|h
  · rfl
  · rfl
  · rfl
  · exact svL_one r v h
theorem putL_all:∀(vs cs:List Value),cs.length=vs.length→putL cs 0 vs=vs:=by
 have key:∀(vs pre cs:List Value),cs.length=vs.length→putL (pre++cs) pre.length vs=pre++vs:=by
  intro vs
  induction vs with
  |nil=>intro pre cs h;have:cs=[]:=List.eq_nil_of_length_eq_zero (by simpa using h);subst this;rfl
  |cons v r ih=>
   intro pre cs h
   cases cs with
   |nil=>simp at h
   |cons c cs=>
    show putL ((pre++c::cs).set pre.length v) (pre.length+1) r=pre++v::r
    have e:(pre++c::cs).set pre.length v=(pre++[v])++cs:=by simp
    rw[e];have:=ih (pre++[v]) cs (by simpa using h)
    simpa using this
 intro vs cs h
 simpa using key vs [] cs h
theorem blk_arr(w:World)(t:TypeId)(x:Array Value):Blk t (w.alloc (.cells x t)) w.heap.size x.toList:=by
 have:=Blk.new w t x.toList
 rwa[Array.toArray_toList] at this
theorem st_servos(S:FS):((stL S).drop 21).take 2=spL S:=rfl
theorem Zbh{C:CR}{S:FS}{sv:Nat→List Sv}(h:stE C S sv=0):crE C=0∧∀k,k<8→eSt C S sv k=0:=by
 unfold stE at h
 split at h
 · rename_i h0
   split at h
   · rename_i h1;exact⟨h0,Ziz h1⟩
   · cases h
 · rename_i h0;exact absurd h h0
theorem Zfl{C:CR}{S:FS}{sv:Nat→List Sv}(h:stE C S sv=0){i:Nat}(hi:i<2):((sv i).length:Int)=C.a i 4∧seU C i (sv i) (sv i).length=0:=by
 have:csE C i (sv i)=0:=by
  rcases(show i=0∨i=1 by omega) with rfl|rfl
  · exact(Zbh h).2 4 (by omega)
  · exact(Zbh h).2 6 (by omega)
 unfold csE at this
 split at this
 · rename_i e;exact⟨e,this⟩
 · cases this
theorem seU_all{C:CR}{i:Nat}{L:List Sv}:∀n,seU C i L n=0→∀k,k<n→svE (C.a i 5) (C.a i 6) (C.a i 7) (C.a i 10) (svAt L k).1 (svAt L k).2.1 (svAt L k).2.2=0
 |0,_,k,hk=>by omega
 |n+1,h,k,hk=>by
  rw[seU] at h
  split at h
  · rename_i h0
    by_cases e:k=n
    · subst e;exact h
    · exact seU_all n h0 k (by omega)
  · rename_i h0;exact absurd h h0
theorem stE_sv{C:CR}{S:FS}{sv:Nat→List Sv}(h:stE C S sv=0){i:Nat}(hi:i<2):2≤(sv i).length∧(sv i).length≤4:=by
 have a:=(Zfl h hi).1;have b:=Zdz (show rgE (C.a i 4) (C.a i 3)=0 from Zde (Zbh h).1 hi (k:=0) (by omega))
 omega
end Go.Proofs.YtnfdfiholcelaaaGreatDoor
