
import Derived.Test.YtnfdfiholcelaaaGreatDoorJp26
import Derived.Test.YtnfdfiholcelaaaGreatDoorJp31
import Derived.Test.YtnfdfiholcelaaaGreatDoorJp32
set_option maxRecDepth 100000
set_option maxHeartbeats 20000000
namespace Go.Proofs.YtnfdfiholcelaaaGreatDoor
open Go.RowKit Plain Tryz
variable {B K i:Nat}{C:CR}{Q:Exit→Act→World→Prop}{T:FS}{a:Option Addr}{l:List Stp}{ops:Array Oper}{rest:List Oper}{row:Option Nat}{rs:List Rp}{s:Value}{u u' w:World}
def Sts(u:World)(a:Option Addr)(l:List Stp):Prop:=l=[]∨∃b off,a=some (Ad b off)∧∀k,k<l.length→u.rangeAt b (off+k*8) (stpL (stAt l k))
theorem Sts.later(h:Sts u a l)(hb:Bw u u'):Sts u' a l:=by
 rcases h with h|⟨b,off,h,hc⟩
 · exact .inl h
 · exact .inr ⟨b,off,h,fun k hk j v hj=>cell_later hb (hc k hk j v hj)⟩
theorem Sts.at(h:Sts u a l){k:Nat}(hk:k<l.length):∃b off,a=some (Ad b off)∧u.rangeAt b (off+k*8) (stpL (stAt l k)):=by
 rcases h with h|⟨b,off,h,hc⟩
 · rw[h] at hk;simp at hk
 · exact⟨b,off,h,hc k hk⟩
theorem Oth.sts(h:Oth w u B)(hn:l≠[]→∀g o,a=some (Ad g o)→g≠B)(k:Sts w a l):Sts u a l:=by
 rcases k with k|⟨g,o,e,hc⟩
 · exact .inl k
 · exact .inr ⟨g,o,e,fun k hk j v hj=>h.cell (hn (fun z=>by rw[z] at hk;simp at hk) g o e) (hc k hk j v hj)⟩
theorem sts_lt(k:Sts w a l):l≠[]→∀g o,a=some (Ad g o)→g<w.heap.size:=by
 intro hl g o e
 rcases k with k|⟨g',o',e',hc⟩
 · exact absurd k hl
 · rw[e'] at e;cases e;exact World.block_lt_of_cell? w _ (hc 0 (List.length_pos_iff.2 hl) 0 _ rfl)
theorem fcheck_ok(C:CR)(pf:Option Addr)(cf:Nat)(l:List Ft)(ps:Option Addr)(cs:Nat)(ss:List Stp)(hc:crE C=0)(hf:∀k,k<l.length→FtOK C (ftAt l k))(hs:∀k,k<ss.length→SA C (stAt ss k))(hl:l.length≤20)(hn:ss.length≤300)(w:World)(hg:GV w)(hcr:CrL w C)(hF:Fts w pf l)(hS:Sts w ps ss):
 Calls prog 79 #[.agg (crL C).toArray,.slice pf l.length cf,.slice ps ss.length cs] w (Rt w .nilIface):=by
 have hck:=fun u (h:Bw w u)=>craftCheck_c C u (hg.later h) (hcr.later h);rw[hc,Z2] at hck;have Hc:=Za (fun k (hk:k<l.length)=>Zjg C (ftAt l k) (hf k hk) (fun i hi=>(Z9 hc hi).1));have Hd:=Za (fun k (hk:k<ss.length)=>checkStep_ok C (stAt ss k) (hs k hk) (fun i hi=>(Z9 hc hi).2));have Hf:=Za (fun u (h:Bw w u)=>hF.later h);have Hg:=Za (fun u (h:Bw w u)=>hS.later h);have HK:=Za (Blk.new w 29 (crL C));have Ha:=Za (Zb w (.cells (crL C).toArray 29));clear hg hcr hF hS hf hs hc
 have hl1:¬(20:Int)<(l.length:Int):=by omega
 have hl2:¬(300:Int)<(ss.length:Int):=by omega
 go_enter func79,ntmps79
 go_upto_region 1 with fail;generalize w.alloc (.cells (crL C).toArray 29)=v0 at *;generalize hQK:w.heap.size=QK at HK⊢;clear hQK
 go_upto_region 7 with(first
  |(refine Lm 29 (.tmp 3) rfl QK 0 (crL C) HK.out.range underlying29 Zt ?_)
  |(go_at_call 64;refine Sb (hck _ Ha.out) fun v1 hb=>?_;replace HK:=Za (HK.out.later hb);replace Ha:=Za (Zc Ha.out hb);clear hb))
 clear hck
 go_loopw [30] (fun ix wr=>∃k:Nat,k≤l.length∧ix=Vi k∧Blk 29 wr QK (crL C)∧Bw w wr) (fun ix _=>l.length-(intOf ix).toNat)
 case atStart=>exact⟨0,by omega,rfl,HK.out,Ha.out⟩
 case round=>
  clear HK Ha;obtain⟨k,hk,rfl,hkk,hbw⟩:=hrel
  by_cases hlt:k<l.length
  · obtain⟨b,off,rfl,hr⟩:=(Hf.out wr hbw).at hlt;have hcf:=Hc.out k hlt
    have k0:(0:Int)≤(k:Int):=by omega
    have k1:(k:Int)<(l.length:Int):=by omega
    generalize ftAt l k=f at *;obtain⟨fa,fk,fx,fu,fi⟩:=f;have c0:=hr 0 _ rfl;have c1:=hr 1 _ rfl;have c2:=hr 2 _ rfl;have c3:=hr 3 _ rfl;have c4:=hr 4 _ rfl
    dsimp only at c0 c1 c2 c3 c4
    simp only[Nat.add_zero] at c0;have HK:=Za (hkk.later (Zb wr (.cells #[Vi fa,Vi fk,Vi fx,Vi fu,Vi fi] 73)));have HX:Hid (Blk 73 (wr.alloc (.cells #[Vi fa,Vi fk,Vi fx,Vi fu,Vi fi] 73)) wr.heap.size [Vi fa,Vi fk,Vi fx,Vi fu,Vi fi]):=Za (Blk.new wr _ _);have Hb:=Za (Zc hbw (Zb wr (.cells #[Vi fa,Vi fk,Vi fx,Vi fu,Vi fi] 73)));clear hr hkk hbw
    go_upto_region 9 with fail;generalize wr.alloc (.cells #[Vi fa,Vi fk,Vi fx,Vi fu,Vi fi] 73)=v2 at *;clear c0 c1 c2 c3 c4;generalize wr.heap.size=QX at HX⊢;have c0:=(HX.out.cell (j:=0) rfl).1;have c1:=(HX.out.cell (j:=1) rfl).1;have c2:=(HX.out.cell (j:=2) rfl).1;have c3:=(HX.out.cell (j:=3) rfl).1;have c4:=(HX.out.cell (j:=4) rfl).1;have hcf':∀u,Calls prog 27 #[.agg (crL C).toArray,.agg #[Vi fa,Vi fk,Vi fx,Vi fu,Vi fi]] u (Rt u .nilIface):=hcf;clear hcf
    go_wp2_with (first
     |(refine Lm 29 (.tmp 3) rfl QK 0 (crL C) HK.out.range underlying29 Zt ?_)
     |(go_at_call 27;refine Sb (hcf' _) fun v3 hb=>?_;replace HK:=Za (HK.out.later hb);replace Hb:=Za (Zc Hb.out hb);clear hb c0 c1 c2 c3 c4))
    go_roundw
    case rel=>exact⟨k+1,by omega,by go_num,HK.out,Hb.out⟩
    case measure=>simp[intOf];omega
  · obtain rfl:k=l.length:=by omega
    have HK:=Za hkk;have Ha:=Za hbw;clear hkk hbw
    go_upto_region 14 with fail
    go_loopw [43] (fun ix wr=>∃k:Nat,k≤ss.length∧ix=Vi k∧Blk 29 wr QK (crL C)∧Bw w wr) (fun ix _=>ss.length-(intOf ix).toNat)
    case atStart=>exact⟨0,by omega,rfl,HK.out,Ha.out⟩
    case round=>
     clear HK Ha;obtain⟨k,hk,rfl,hkk,hbw⟩:=hrel
     by_cases hlt:k<ss.length
     · obtain⟨b,off,rfl,hr⟩:=(Hg.out _ hbw).at hlt;have hcf:=Hd.out k hlt
       have k0:(0:Int)≤(k:Int):=by omega
       have k1:(k:Int)<(ss.length:Int):=by omega
       generalize stAt ss k=s at *;have c0:=hr 0 _ rfl;have c1:=hr 1 _ rfl;have c2:=hr 2 _ rfl;have c3:=hr 3 _ rfl;have c4:=hr 4 _ rfl;have c5:=hr 5 _ rfl;have c6:=hr 6 _ rfl;have c7:=hr 7 _ rfl;simp only[Nat.add_zero] at c0;rename World=>wq;have HK:=Za (hkk.later (Zb wq (.cells #[Vi (s.k 0),Vi (s.k 1),Vi (s.p 0),Vi (s.p 1),Vi (s.z 0),Vi (s.z 1),Vi s.v,.bool s.g] 78)));have HX:Hid (Blk 78 (wq.alloc (.cells #[Vi (s.k 0),Vi (s.k 1),Vi (s.p 0),Vi (s.p 1),Vi (s.z 0),Vi (s.z 1),Vi s.v,.bool s.g] 78)) wq.heap.size [Vi (s.k 0),Vi (s.k 1),Vi (s.p 0),Vi (s.p 1),Vi (s.z 0),Vi (s.z 1),Vi s.v,.bool s.g]):=Za (Blk.new wq _ _);have Hb:=Za (Zc hbw (Zb wq (.cells #[Vi (s.k 0),Vi (s.k 1),Vi (s.p 0),Vi (s.p 1),Vi (s.z 0),Vi (s.z 1),Vi s.v,.bool s.g] 78)));clear hr hkk hbw
       go_upto_region 16 with fail;generalize wq.alloc (.cells #[Vi (s.k 0),Vi (s.k 1),Vi (s.p 0),Vi (s.p 1),Vi (s.z 0),Vi (s.z 1),Vi s.v,.bool s.g] 78)=v2 at *;clear c0 c1 c2 c3 c4 c5 c6 c7;generalize wq.heap.size=QX at HX⊢;have c0:=(HX.out.cell (j:=0) rfl).1;have c1:=(HX.out.cell (j:=1) rfl).1;have c2:=(HX.out.cell (j:=2) rfl).1;have c3:=(HX.out.cell (j:=3) rfl).1;have c4:=(HX.out.cell (j:=4) rfl).1;have c5:=(HX.out.cell (j:=5) rfl).1;have c6:=(HX.out.cell (j:=6) rfl).1;have c7:=(HX.out.cell (j:=7) rfl).1;have hcf':∀u,Calls prog 29 #[.agg (crL C).toArray,.agg #[Vi (s.k 0),Vi (s.k 1),Vi (s.p 0),Vi (s.p 1),Vi (s.z 0),Vi (s.z 1),Vi s.v,.bool s.g]] u (Rt u .nilIface):=hcf;clear hcf
       go_wp2_with (first
        |(refine Lm 29 (.tmp 3) rfl QK 0 (crL C) HK.out.range underlying29 Zt ?_)
        |(go_at_call 29;refine Sb (hcf' _) fun v3 hb=>?_;replace HK:=Za (HK.out.later hb);replace Hb:=Za (Zc Hb.out hb);clear hb c0 c1 c2 c3 c4 c5 c6 c7))
       go_roundw
       case rel=>exact⟨k+1,by omega,by go_num,HK.out,Hb.out⟩
       case measure=>simp[intOf];omega
     · obtain rfl:k=ss.length:=by omega
       have Ha:=Za hbw;clear hkk hbw;go_wp2_with fail;go_ret;exact⟨rfl,Ha.out⟩
theorem zs_vls{n:Nat}(h:ZS w a n):VLs w a (List.replicate n svD):=by
 rcases h with rfl|⟨b,off,e,hc⟩
 · exact .inl rfl
 · refine .inr ⟨b,off,e,fun k hk=>?_⟩;rw[List.length_replicate] at hk;rw[Zhw];exact hc k hk
def fmk2{α:Type}(a b:α)(i:Nat):α:=if i=0 then a else b
def zT(G0 G1 k0 k1:Nat):FS:=⟨fun _=>zB0,fmk2 (some (Ad G0 0)) (some (Ad G1 0)),fmk2 k0 k1,fmk2 k0 k1,fun _=>(0,0,0),0⟩
theorem new_c(C:CR)(hc:crE C=0)(w:World)(hg:GV w)(hl:CrL w C):
 Calls prog 80 #[.agg (crL C).toArray] w fun e w'=>(∃T,e=.returned (.tuple #[.agg (stL T).toArray,.nilIface])∧SaS T (q0 C).S∧SvL w' T (q0 C).sv)∧Bw w w':=by
 have r0:=(Z9 hc (i:=0) (by omega)).1;have r1:=(Z9 hc (i:=1) (by omega)).1;have h:=fnew_yes (C.a 0 0) (C.a 0 1) (C.a 0 2) (C.a 0 3) (C.a 0 4) (C.a 0 5) (C.a 0 6) (C.a 0 7) (C.a 0 8) (C.a 0 9) (C.a 0 10) (C.a 0 11) (C.a 0 14) (C.p 0) (C.q 0) (C.al 0) (C.zl 0) (C.cn 0) (C.cm 0) (C.a 1 0) (C.a 1 1) (C.a 1 2) (C.a 1 3) (C.a 1 4) (C.a 1 5) (C.a 1 6) (C.a 1 7) (C.a 1 8) (C.a 1 9) (C.a 1 10) (C.a 1 11) (C.a 1 14) (C.p 1) (C.q 1) (C.al 1) (C.zl 1) (C.cn 1) (C.cm 1) C.c0 C.c1 r0 r1 w hg (hl 0 (by omega)) (hl 1 (by omega)) hc;refine h.mono ?_;rintro e w' ⟨G0,G1,k0,k1,⟨e0,e1⟩,rfl,z0,z1,hb⟩;refine⟨⟨zT G0 G1 k0 k1,rfl,⟨rfl,rfl,rfl⟩,fun i hi=>?_⟩,hb⟩;have hlen:∀n:Nat,(List.replicate n svD).length=n:=fun n=>List.length_replicate
 rcases Qtw i with rfl|rfl
 · show k0=(List.replicate (C.a 0 4).toNat svD).length∧(List.replicate (C.a 0 4).toNat svD).length≤9∧VLs w' (some (Ad G0 0)) (List.replicate (C.a 0 4).toNat svD)
   rw[hlen,show(C.a 0 4).toNat=k0 by omega];exact⟨rfl,by omega,zs_vls z0⟩
 · show k1=(List.replicate (C.a 1 4).toNat svD).length∧(List.replicate (C.a 1 4).toNat svD).length≤9∧VLs w' (some (Ad G1 0)) (List.replicate (C.a 1 4).toNat svD)
   rw[hlen,show(C.a 1 4).toNat=k1 by omega];exact⟨rfl,by omega,zs_vls z1⟩
def encP(l:List Rp):List Value:=l.flatMap rpL
theorem encP_snoc(l:List Rp)(r:Rp):encP (l++[r])=encP l++rpL r:=by simp[encP]
theorem Ue(r:Rp):(rpL r).length=15:=rfl
theorem rpL_one(r:Rp):∀v∈rpL r,v.oneCell'=true:=by
 intro v hv;have:(rpL r).all (·.oneCell')=true:=rfl;exact List.all_eq_true.1 this v hv
theorem infoRp3:(prog.info? 95).map (fun i=>(i.zero,i.size,i.bytes))=some (some (.agg Qbk),15,120):=by kernel_rfl
theorem rps_under:prog.underlying 69=some (.slice 95):=by kernel_rfl
def RpO(K:Nat)(u:World)(s:Value)(rs:List Rp):Prop:=u.ownsRow K 95 15 s rs.length (encP rs)
theorem RpO.nil(K:Nat)(u:World):RpO K u (.slice none 0 0) []:=World.ownsRow_nil _ _ _ _
theorem RpO.later(h:RpO K u s rs)(hb:Bw u u'):RpO K u' s rs:=Y3 h hb
theorem RpO.oth(h:RpO K u s rs)(hB:B<K)(ho:Oth u u' B):RpO K u' s rs:=
 World.ownsRow.kept h ho.grown (by
  cases e:s.ownBlock with
  |none=>exact .inl rfl
  |some k=>exact .inr (fun e2=>by have:=(World.ownsRow.lt h k e).1;cases e2;omega))
theorem wpList_apP{o:Oper}{a:Act}{r:Rp}{p:Option Addr}{c:Nat}(sO xO:Operand)(ho:o.op=.call { callee:=.builtin .append,args:=#[sO,xO],argTypes:=#[69,69] })(hx:a.eval xO=.slice p 1 c)(hown:RpO K u s rs)(hK:K≤u.heap.size)(hy:Lay u p (rpL r))(hm:rs.length≤1000)(h:∀s' u',RpO K u' s' (rs++[r])→u.grownBy u' s.ownBlock→wpList prog ops Q rest (a.put o.dst s') u')(hgd:o.guard=none:=by rfl)(hs:a.eval sO=s:=by rfl):wpList prog ops Q (o::rest) a u:=by
 obtain⟨i0,hi4,hz0,hz1,hz2⟩:=info_parts infoRp3;refine Na sO xO ho rps_under hi4 hz0 hz1 hz2 hx hown hy (Ue r) (rpL_one r) (by unfold maxLen;omega) (by omega) hK (fun s' u' h1 h2=>h s' u' ?_ h2) (by decide) rfl hgd hs
 unfold RpO
 rw[List.length_append,encP_snoc];exact h1
theorem lay_rp(w:World)(r:Rp):Lay (w.alloc (.cells (rpL r).toArray 95)) (some (Ad w.heap.size 0)) (rpL r):=.inr ⟨_,0,rfl,(Blk.new w 95 (rpL r)).range⟩
theorem rpU_len(C:CR)(l:List Ft)(ss:List Stp):∀n,(rpU C l ss n).length=n
 |0=>rfl
 |n+1=>by rw[rpU,List.length_append,rpU_len C l ss n];rfl
theorem rpF_same{q:FT}(h:SaS T q.S):rpF ⟨T,q.sv,q.x,q.at'⟩=rpF q:=by
 unfold rpF
 dsimp only
 rw[h.1,h.2.2]
theorem RpO.weak{K':Nat}(h:RpO K u s rs)(hK:K'≤K):RpO K' u s rs:=by
 refine⟨h.1,?_⟩
 rcases h.2 with h|⟨g,cap,cur,h1,h2,h3⟩
 · exact .inl h
 · exact .inr ⟨g,cap,cur,h1,Nat.le_trans hK h2,h3⟩
theorem Oth.grew(h:Oth w u B)(hg:u.grownBy u' row)(hr:∀g,row=some g→w.heap.size≤g):Oth w u' B:=
 ⟨Nat.le_trans h.1 hg.size,hg.os.trans h.2.1,hg.tape.trans h.2.2.1,hg.output.trans h.2.2.2.1,fun b h1 h2=>(hg.block b (Nat.lt_of_lt_of_le h1 h.1) (fun e=>by have:=hr b e.symm;omega)).trans (h.2.2.2.2 b h1 h2)⟩
theorem svl_grew{sv:Nat→List Sv}(h:SvL u T sv)(hg:u.grownBy u' row)(hr:∀i,i<2→∀g o,T.sp i=some (Ad g o)→some g≠row):SvL u' T sv:=fun i hi=>by
 refine⟨(h i hi).1,(h i hi).2.1,?_⟩
 rcases(h i hi).2.2 with k|⟨g,o,e,hc⟩
 · exact .inl k
 · exact .inr ⟨g,o,e,fun j hj=>⟨hg.cell (hc j hj).1 (hr i hi g o e),hg.cell (hc j hj).2.1 (hr i hi g o e),hg.cell (hc j hj).2.2 (hr i hi g o e)⟩⟩
theorem fly_frame(C:CR)(pf:Option Addr)(cf:Nat)(l:List Ft)(ss:List Stp)(hl:l.length≤20)(hn:ss.length≤300)(hgi:∀n,n≤ss.length→GI C n (flU C l ss n))(hss:∀k,k<ss.length→SA C (stAt ss k))(B k:Nat)(hk:k<ss.length)(T:FS)(hT:SaS T (flU C l ss k).S)(u:World)(hb:Blk 173 u B (flL C pf l.length cf T k (flU C l ss k).x (flU C l ss k).at'))(hf:Fts u pf l)(hg:GV u)(hcr:CrL u C)(hv:SvL u T (flU C l ss k).sv)(hnf:l≠[]→∀g o,pf=some (Ad g o)→g≠B):
 Calls prog 81 #[.pointer (some (Ad B 0)),.agg (stpL (stAt ss k)).toArray] u fun e w'=>e=.returned .nilIface∧∃T',SaS T' (flU C l ss (k+1)).S∧Blk 173 w' B (flL C pf l.length cf T' ((k+1:Nat):Int) (flU C l ss (k+1)).x (flU C l ss (k+1)).at')∧SvL w' T' (flU C l ss (k+1)).sv∧SpN T' u.heap.size∧Oth u w' B:=by
 have gi:=hgi k (by omega);have st:stE C T (flU C l ss k).sv=0:=(stE_same hT).trans gi.st;have h:=frame_any B C pf cf l k ⟨T,(flU C l ss k).sv,(flU C l ss k).x,(flU C l ss k).at'⟩ (stAt ss k) u hb hf (by omega) (by omega) (hss k hk) (fun i hi=>by have:=gi.x i hi;show _≤(flU C l ss k).x i∧(flU C l ss k).x i≤_;omega) gi.at4 hg hcr hv st hnf;obtain⟨e1,e2,e3,e4⟩:=stpF_same (C:=C) (l:=l) (now:=(k:Int)) (s:=stAt ss k) hT;rw[e2,e3,e4] at h;refine h.mono ?_;rintro e w' ⟨he,T',h1,h2,h3,h4,h5⟩;refine⟨he,T',⟨h1.1.trans e1.1,h1.2.1.trans e1.2.1,h1.2.2.trans e1.2.2⟩,?_,h3,h4,h5⟩;rw[show((k+1:Nat):Int)=(k:Int)+1 by omega];exact h2
theorem ax_ok{a0 a1 a2 a3 a4 a5 a6 a7 a8 a9 a10 a11 a14 x y z:Int}(h:AxK a0 a1 a2 a3 a4 a5 a6 a7 a8 a9 a10 a11 a14)(hx:100≤x∧x≤999)(hy:0≤y∧y≤65536)(hz:0≤z∧z≤299)(k:Nat):eAx a0 a1 a2 a3 a4 a5 a6 a7 a8 a9 a10 a11 a14 [0,x] [y,z] k=0:=by
 have m5:=W8 h.s0 h.s1 h.t0 h.t1;have m6:=W8 h.s0 h.s1 h.r0 (by have:=h.r1;have:=h.t1;omega);have mm:=Int.mul_le_mul_of_nonneg_left h.r1 (show 0≤a4-1 by have:=h.s0;omega);obtain⟨lo,lz,hz',hi,n0,n1,p0,p1,s0,s1,t0,t1,r0,r1,k0,k1,l0,l1,c0,c1,w0,w1,u0,u1,b0,b1,pr,room⟩:=h
 match k with
 |0=>show rgE a4 a3=0;unfold rgE;rw[if_pos (by rw[Y7 s0 s1,Y7 p0 p1];rfl)]
 |1=>show Z7 a8 a9=0;unfold Z7;rw[if_pos (by simp only[ruleB,Bool.and_eq_true,decide_eq_true_eq];omega)]
 |2=>show arE a5 a6 a7 a10=0;unfold arE;rw[if_pos (by simp only[arB,Bool.and_eq_true];exact⟨⟨⟨Y7 t0 t1,Y7 r0 r1⟩,Y7 k0 k1⟩,Y7 w0 w1⟩)]
 |3=>
  show grE a0 a1 a2 (a3+a7) ((a4-1)*a5) ((a4-1)*a6)=0
  unfold grE
  rw[if_pos (by simp only[grB,Bool.and_eq_true,decide_eq_true_eq];omega),if_pos (by simp only[gfB,Bool.and_eq_true,decide_eq_true_eq];omega)]
 |4=>
  show ruE a0 a1 a11 a14 ((a4-1)*a5) [0,x] [y,z]=0
  have hl:Ye [0,x] [y,z]=0:=by
   have e1:Zw [0,x]=0:=by unfold Zw;rw[if_pos (by simp[Zu];omega)]
   have e2:Zw [y,z]=0:=by unfold Zw;rw[if_pos (by simp[Zu];omega)]
   have e3:Z6 [0,x] 1=false:=by simp[Z6,at0];omega
   unfold Ye Yl
   simp[e1,e2,e3]
  have hr:r0E a0 a1 a11 a14 ((a4-1)*a5) [0,x] [y,z]=0:=by
   unfold r0E
   rw[hl,if_pos (by simp only[ruB,Bool.and_eq_true,betw,decide_eq_true_eq];omega),if_neg (by omega)]
   rfl
  have hg:gaU [y,z] 2=0:=by
   rw[gaU,gaU,gaU,firstI_two,firstI_two];rw[if_pos (by rw[if_pos rfl,if_pos (show betw (at0 [y,z] 0) 0 65536=true from Y7 hy.1 hy.2)]),if_pos (show betw (at0 [y,z] 1) 0 65536=true from Y7 hz.1 (by have:=hz.2;show z≤65536;omega))]
  unfold ruE
  rw[if_pos hr];exact hg
 |k+5=>show fmE a8 a2 a0 a1=0;unfold fmE;rw[if_neg (by omega)]
theorem craftFrom_c(a:Option Addr)(l:List Int)(cap:Nat)(hl:l.length≤100)(w:World)(hil:ILs w a l):
 Calls prog 21 #[.slice a l.length cap] w fun e w'=>(∃C:CR,e=.returned (.agg (crL C).toArray)∧crE C=0∧CrL w' C∧(∀i,i<2→(C.al i).length=2∧(C.zl i).length=2))∧Bw w w':=by
 refine(craftFrom_full a l cap hl w hil).mono ?_;rintro e w' ⟨⟨v,rfl,⟨a0,a1,a2,a3,a4,a5,a6,a7,a8,a9,a10,a11,a14,G1,G2,x,y,z,⟨h0,h1,h2,h3,h4,h5,h6,h7,h8,h9,h10,h11,h12,h13,h14⟩,hk,hg,_,_⟩,⟨b0,b1,b2,b3,b4,b5,b6,b7,b8,b9,b10,b11,b14,K1,K2,p,q,r,⟨g0,g1,g2,g3,g4,g5,g6,g7,g8,g9,g10,g11,g12,g13,g14⟩,hk',hg',_,_⟩,⟨c0,e30,c00,c01⟩,⟨c1,e31,c10,c11⟩⟩,hb⟩;refine⟨⟨⟨fmk2 (fun j=>[a0,a1,a2,a3,a4,a5,a6,a7,a8,a9,a10,a11,0,0,a14].getD j 0) (fun j=>[b0,b1,b2,b3,b4,b5,b6,b7,b8,b9,b10,b11,0,0,b14].getD j 0),fmk2 (some (Ad G1 0)) (some (Ad K1 0)),fmk2 (some (Ad G2 0)) (some (Ad K2 0)),fmk2 [0,x] [0,p],fmk2 [y,z] [q,r],fun _=>2,fun _=>2,c0,c1⟩,?_,?_,fun i hi=>?_,fun i hi=>?_⟩,hb⟩
 · simp only[Nat.zero_add,Nat.reduceAdd] at h0 h1 h2 h3 h4 h5 h6 h7 h8 h9 h10 h11 h12 h13 h14 g0 g1 g2 g3 g4 g5 g6 g7 g8 g9 g10 g11 g12 g13 g14;rw[h0,h1,h2,h3,h4,h5,h6,h7,h8,h9,h10,h11,h12,h13,h14,g0,g1,g2,g3,g4,g5,g6,g7,g8,g9,g10,g11,g12,g13,g14,e30,e31]
   rfl
 · refine U4 fun j hj=>?_
   show eCr a0 a1 a2 a3 a4 a5 a6 a7 a8 a9 a10 a11 a14 [0,x] [y,z] b0 b1 b2 b3 b4 b5 b6 b7 b8 b9 b10 b11 b14 [0,p] [q,r] c0 c1 j=0
   unfold eCr
   split
   · exact ax_ok hk hg.2.1 hg.2.2.1 hg.2.2.2 j
   · split
     · exact ax_ok hk' hg'.2.1 hg'.2.2.1 hg'.2.2.2 _
     · unfold Z7
       rw[if_pos (by simp only[ruleB,Bool.and_eq_true,decide_eq_true_eq];omega)]
 · have two:∀(u:World) (G:Nat) (s t:Int),Kc u G 0 (Vi s)→Kc u G 1 (Vi t)→Lst u (some (Ad G 0)) [s,t]:=fun u G s t h k=>.inr ⟨G,0,rfl,fun j hj=>by
    match j,hj with
    |0,_=>exact h
    |1,_=>exact k⟩
   rcases Qtw i with rfl|rfl
   · exact⟨by show 2≤_;omega,by show 2≤_;omega,Nat.le_refl 2,two _ _ _ _ hg.1.1 hg.1.2.1,two _ _ _ _ hg.1.2.2.1 hg.1.2.2.2⟩
   · exact⟨by show 2≤_;omega,by show 2≤_;omega,Nat.le_refl 2,two _ _ _ _ hg'.1.1 hg'.1.2.1,two _ _ _ _ hg'.1.2.2.1 hg'.1.2.2.2⟩
 · rcases Qtw i with rfl|rfl<;>exact⟨rfl,rfl⟩
def ftB(C:CR)(f:Ft):Bool:=betw f.1 0 300&&(betw f.2.1 0 4&&(betw f.2.2.1 0 2&&(decide (0≤f.2.2.2.1)&&if f.2.1=4 then(decide (f.2.2.1<2)&&decide (f.2.2.2.1<C.a f.2.2.1.toNat 4)) else decide (f.2.2.2.1<3))))
def ftE(C:CR)(f:Ft):Int:=if ftB C f then 0 else 1
theorem ftB_mk{f:Ft}(h:FtOK C f):ftB C f=true:=by
 simp only[ftB,Bool.and_eq_true,decide_eq_true_eq];refine⟨Y6 h.a,Y6 h.k,Y6 h.x,h.u,?_⟩
 split
 · rename_i e
   simp only[Bool.and_eq_true,decide_eq_true_eq];exact⟨by have:=(h.su e).1;omega,(h.su e).2⟩
 · rename_i e
   have:=h.ch e;simp only[decide_eq_true_eq]
   omega
theorem irem2(hi:i<2):(i:Int).tmod 2=i:=by
 rcases Qtw i with rfl|rfl<;>rfl
theorem faultMay_any(C:CR)(f:Ft)(w:World):Calls prog 28 #[.agg (crL C).toArray,.agg (ftL f).toArray] w (Rt w (Vi (ftE C f))):=by
 obtain⟨fa,fk,fx,fu,fi⟩:=f;have hi1:=Zy fa 0 300;have hi2:=Zy fk 0 4;have hi3:=Zy fx 0 2;have hE:ftE C (fa,fk,fx,fu,fi)=if betw fa 0 300&&(betw fk 0 4&&(betw fx 0 2&&(decide (0≤fu)&&if fk=4 then(decide (fx<2)&&decide (fu<C.a fx.toNat 4)) else decide (fu<3)))) then 0 else 1:=rfl;have hx:=fun h=>Z0 (x:=fx) (lo:=0) (hi:=2) h
 change Calls prog 28 #[.agg (crL C).toArray,.agg #[Vi fa,Vi fk,Vi fx,Vi fu,Vi fi]] w _
 have HK:=Za ((Blk.new w 29 (crL C)).later (Zb (w.alloc (.cells (crL C).toArray 29)) (.cells #[Vi fa,Vi fk,Vi fx,Vi fu,Vi fi] 73)));have HF:Hid (Blk 73 ((w.alloc (.cells (crL C).toArray 29)).alloc (.cells #[Vi fa,Vi fk,Vi fx,Vi fu,Vi fi] 73)) (w.heap.size+1) [Vi fa,Vi fk,Vi fx,Vi fu,Vi fi]):=Za (by have h:=Blk.new (w.alloc (.cells (crL C).toArray 29)) 73 [Vi fa,Vi fk,Vi fx,Vi fu,Vi fi];rw[World.size_alloc] at h;exact h);have Ha:=Za (Zc (Zb w (.cells (crL C).toArray 29)) (Zb (w.alloc (.cells (crL C).toArray 29)) (.cells #[Vi fa,Vi fk,Vi fx,Vi fu,Vi fi] 73)))
 go_enter func28,ntmps28
 go_upto_region 1 with fail;generalize (w.alloc (.cells (crL C).toArray 29)).alloc (.cells #[Vi fa,Vi fk,Vi fx,Vi fu,Vi fi] 73)=v0 at *;have c0:=(HF.out.cell (j:=0) rfl).1;have c1:=(HF.out.cell (j:=1) rfl).1;have c2:=(HF.out.cell (j:=2) rfl).1;have c3:=(HF.out.cell (j:=3) rfl).1;generalize betw fa 0 300=b1 at *;generalize betw fk 0 4=b2 at *;generalize hb3:betw fx 0 2=b3 at*
 cases b1
 · have HE:=Za hE;clear hE hx hb3
   go_wp2_with (first
    |((first|go_at_call_of 38 (Vi 300)|go_at_call_of 38 (Value.int .i64 300));refine Sm (hi1 _) ?_)
    |((first|go_at_call_of 38 (Vi 4)|go_at_call_of 38 (Value.int .i64 4));refine Sm (hi2 _) ?_)
    |((first|go_at_call_of 38 (Vi 2)|go_at_call_of 38 (Value.int .i64 2));refine Sm (hi3 _) ?_)
    |(go_at_call 14;refine Sm (Ys 1 _) ?_))
   go_ret;exact⟨by rw[HE.out];rfl,Ha.out⟩
 cases b2
 · have HE:=Za hE;clear hE hx hb3
   go_wp2_with (first
    |((first|go_at_call_of 38 (Vi 300)|go_at_call_of 38 (Value.int .i64 300));refine Sm (hi1 _) ?_)
    |((first|go_at_call_of 38 (Vi 4)|go_at_call_of 38 (Value.int .i64 4));refine Sm (hi2 _) ?_)
    |((first|go_at_call_of 38 (Vi 2)|go_at_call_of 38 (Value.int .i64 2));refine Sm (hi3 _) ?_)
    |(go_at_call 14;refine Sm (Ys 1 _) ?_))
   go_ret;exact⟨by rw[HE.out];rfl,Ha.out⟩
 cases b3
 · have HE:=Za hE;clear hE hx hb3
   go_wp2_with (first
    |((first|go_at_call_of 38 (Vi 300)|go_at_call_of 38 (Value.int .i64 300));refine Sm (hi1 _) ?_)
    |((first|go_at_call_of 38 (Vi 4)|go_at_call_of 38 (Value.int .i64 4));refine Sm (hi2 _) ?_)
    |((first|go_at_call_of 38 (Vi 2)|go_at_call_of 38 (Value.int .i64 2));refine Sm (hi3 _) ?_)
    |(go_at_call 14;refine Sm (Ys 1 _) ?_))
   go_ret;exact⟨by rw[HE.out];rfl,Ha.out⟩
 by_cases hu:0≤fu
 · by_cases hk:fk=4
   · obtain⟨x0,x1⟩:=hx rfl
     by_cases h2:fx=2
     · subst h2 hk;have HE:Hid (ftE C (fa,4,2,fu,fi)=1):=Za (by rw[hE];simp);clear hE hx hb3
       go_upto_region 3 with(first
        |((first|go_at_call_of 38 (Vi 300)|go_at_call_of 38 (Value.int .i64 300));refine Sm (hi1 _) ?_)
        |((first|go_at_call_of 38 (Vi 4)|go_at_call_of 38 (Value.int .i64 4));refine Sm (hi2 _) ?_)
        |((first|go_at_call_of 38 (Vi 2)|go_at_call_of 38 (Value.int .i64 2));refine Sm (hi3 _) ?_)
        |(go_at_call 14;refine Sm (Ys 1 _) ?_))
       refine Cs [30,31,32,33,34,35,36,37,38,39,40,41,42,43,44,5] ?_;refine Cp 0 30 [] ?_;refine Cq (fun _ h=>cell_later h c2) 1 31 [0] ?_;refine Cp 2 32 [1] ?_;refine Cp 3 33 [2] ?_;refine Cz 4 34 [3] ?_ (hw:=fun y w hF=>Zl (congrArg some hF.1));refine Cz 5 35 [3] ?_ (hw:=fun y w hF=>Zl (congrArg some hF.1));refine Cz 6 36 [3] ?_ (hw:=fun y w hF=>Zl (congrArg some hF.1));refine Cz 7 37 [3] ?_ (hw:=fun y w hF=>Zl (congrArg some hF.1));refine Cz 8 38 [3] ?_ (hw:=fun y w hF=>Zl (congrArg some hF.1));refine Cz 9 39 [3] ?_ (hw:=fun y w hF=>Zl (congrArg some hF.1));refine Cz 10 40 [3] ?_ (hw:=fun y w hF=>Zl (congrArg some hF.1));refine Cz 11 41 [3] ?_ (hw:=fun y w hF=>Zl (congrArg some hF.1));refine Cz 12 42 [3] ?_ (hw:=fun y w hF=>Zl (congrArg some hF.1));refine Cz 13 43 [3] ?_ (hw:=fun y w hF=>Zl (congrArg some hF.1));refine Cp 14 44 [3,13] ?_;refine Cp 15 5 [14] ?_;refine Ce (fun y u1 hB hf=>?_);have Hb:=Za hB;clear hB hf;go_simp;have hB:=Hb.out;clear Hb;generalize u1=v2 at hB⊢;refine Ek ?_
       go_wp2_with (go_at_call 14;refine Sm (Ys 1 _) ?_);go_ret;exact⟨by rw[HE.out];rfl,Zc Ha.out hB⟩
     · obtain⟨i,rfl⟩:∃i:Nat,fx=i:=⟨fx.toNat,by omega⟩;subst hk
       have hi:i<2:=by omega
       have i0:(0:Int)≤(i:Int):=by omega
       have i1:(i:Int)<2:=by omega
       have hrm:=irem2 hi;have ea:=(HK.out.cell (cr_su C hi)).1;have HE:Hid (ftE C (fa,4,(i:Int),fu,fi)=if decide (fu<C.a i 4) then 0 else 1):=Za (by rw[hE];simp[hu,i1]);clear hE hx hb3 h2
       go_upto_region 3 with(first
        |((first|go_at_call_of 38 (Vi 300)|go_at_call_of 38 (Value.int .i64 300));refine Sm (hi1 _) ?_)
        |((first|go_at_call_of 38 (Vi 4)|go_at_call_of 38 (Value.int .i64 4));refine Sm (hi2 _) ?_)
        |((first|go_at_call_of 38 (Vi 2)|go_at_call_of 38 (Value.int .i64 2));refine Sm (hi3 _) ?_)
        |(go_at_call 14;refine Sm (Ys 1 _) ?_))
       refine Cs [30,31,32,33,34,35,36,37,38,39,40,41,42,43,44,5] ?_;refine Cp 0 30 [] ?_;refine Cq (fun _ h=>cell_later h c2) 1 31 [0] ?_;refine Cp 2 32 [1] ?_;refine Cp 3 33 [2] ?_;refine Cp 4 34 [3] ?_ (hw:=fun y w hF=>Zf (congrArg some hF.1));refine Cq (fun _ h=>cell_later h c3) 5 35 [4,3] ?_ (hw:=fun y w hF=>Zf (congrArg some hF.2.1));refine Cp 6 36 [3] ?_ (hw:=fun y w hF=>Zf (congrArg some hF.1));refine Cq (fun _ h=>cell_later h c2) 7 37 [6,3] ?_ (hw:=fun y w hF=>Zf (congrArg some hF.2.1));refine Cp 8 38 [7,3] ?_ (hw:=fun y w hF=>Zf (congrArg some hF.2.1));refine Cp 9 39 [3] ?_ (hw:=fun y w hF=>Zf (congrArg some hF.1));refine Cp 10 40 [9,8,3] ?_ (hw:=fun y w hF=>Zf (congrArg some hF.2.2.1));refine Cp 11 41 [10,3] ?_ (hw:=fun y w hF=>Zf (congrArg some hF.2.1));refine Cq (fun _ h=>cell_later h ea) 12 42 [11,3] ?_ (hw:=fun y w hF=>Zf (congrArg some hF.2.1));refine Cp 13 43 [5,12,3] ?_ (hw:=fun y w hF=>Zf (congrArg some hF.2.2.1));refine Cp 14 44 [3,13] ?_;refine Cp 15 5 [14] ?_;refine Ce (fun y u1 hB hf=>?_);have Hb:=Za hB;clear hB hf;go_simp;have hB:=Hb.out;clear Hb;generalize u1=v2 at hB⊢;refine Ek ?_
       by_cases hlt:fu<C.a i 4
       · go_wp2_with (go_at_call 14;refine Sm (Xw 1 _) ?_);go_ret;exact⟨by rw[HE.out,if_pos (by simpa using hlt)];rfl,Zc Ha.out hB⟩
       · go_wp2_with (go_at_call 14;refine Sm (Ys 1 _) ?_);go_ret;exact⟨by rw[HE.out,if_neg (by simpa using hlt)];rfl,Zc Ha.out hB⟩
   · have HE:Hid (ftE C (fa,fk,fx,fu,fi)=if decide (fu<3) then 0 else 1):=Za (by rw[hE];simp[hu,hk]);clear hE hx hb3
     by_cases hlt:fu<3
     · go_wp2_with (first
        |((first|go_at_call_of 38 (Vi 300)|go_at_call_of 38 (Value.int .i64 300));refine Sm (hi1 _) ?_)
        |((first|go_at_call_of 38 (Vi 4)|go_at_call_of 38 (Value.int .i64 4));refine Sm (hi2 _) ?_)
        |((first|go_at_call_of 38 (Vi 2)|go_at_call_of 38 (Value.int .i64 2));refine Sm (hi3 _) ?_)
        |(go_at_call 14;refine Sm (Xw 1 _) ?_))
       go_ret;exact⟨by rw[HE.out,if_pos (by simpa using hlt)];rfl,Ha.out⟩
     · have hd:decide (fu<3)=false:=by simpa using hlt
       go_wp2_with (first
        |((first|go_at_call_of 38 (Vi 300)|go_at_call_of 38 (Value.int .i64 300));refine Sm (hi1 _) ?_)
        |((first|go_at_call_of 38 (Vi 4)|go_at_call_of 38 (Value.int .i64 4));refine Sm (hi2 _) ?_)
        |((first|go_at_call_of 38 (Vi 2)|go_at_call_of 38 (Value.int .i64 2));refine Sm (hi3 _) ?_)
        |(go_at_call 14;refine Sm (Ys 1 _) ?_))
       go_ret;exact⟨by rw[HE.out,if_neg (by simpa using hlt)];rfl,Ha.out⟩
 · have HE:Hid (ftE C (fa,fk,fx,fu,fi)=1):=Za (by rw[hE];simp[hu]);clear hE hx hb3
   go_wp2_with (first
    |((first|go_at_call_of 38 (Vi 300)|go_at_call_of 38 (Value.int .i64 300));refine Sm (hi1 _) ?_)
    |((first|go_at_call_of 38 (Vi 4)|go_at_call_of 38 (Value.int .i64 4));refine Sm (hi2 _) ?_)
    |((first|go_at_call_of 38 (Vi 2)|go_at_call_of 38 (Value.int .i64 2));refine Sm (hi3 _) ?_)
    |(go_at_call 14;refine Sm (Ys 1 _) ?_))
   go_ret;exact⟨by rw[HE.out];rfl,Ha.out⟩
def stpU(C:CR)(s:Stp):Nat→Bool
 |0=>betw s.v 0 262143
 |i+1=>stpU C s i&&(betw (s.k i) (-100) 100&&(betw (s.p i) (-C.a i 3) (C.a i 3)&&betw (s.z i) 0 8589934591))
def stpE(C:CR)(s:Stp):Int:=if stpU C s 2 then 0 else 1
theorem stpU_mk{s:Stp}(h:SA C s):stpU C s 2=true:=by
 simp only[stpU,Bool.and_eq_true];exact⟨⟨Y6 h.v,Y6 (h.k 0 (by omega)),Y6 (h.p 0 (by omega)),Y6 (h.z 0 (by omega))⟩,Y6 (h.k 1 (by omega)),Y6 (h.p 1 (by omega)),Y6 (h.z 1 (by omega))⟩
theorem cr_axi(C:CR)(hi:i<2):((crL C).drop (i*15)).take 15=axL C i:=by
 rcases Qtw i with rfl|rfl<;>rfl
theorem stepMay_any(C:CR)(s:Stp)(h3:∀i,i<2→0≤C.a i 3∧C.a i 3≤1000)(w:World):Calls prog 30 #[.agg (crL C).toArray,.agg (stpL s).toArray] w (Rt w (Vi (stpE C s))):=by
 have hi4:=Zy s.v 0 262143;have Hh:=Za (fun i:Nat=>Zy (s.k i) (-100) 100);have Hi:=Za (fun i:Nat=>Zy (s.p i) (-C.a i 3) (C.a i 3));have Hj:=Za (fun i:Nat=>Zy (s.z i) 0 8589934591);have HE:Hid (stpE C s=if stpU C s 2 then 0 else 1):=Za rfl;have Hk:=Za h3;clear h3;have HK:=Za ((Blk.new w 29 (crL C)).later (Zb (w.alloc (.cells (crL C).toArray 29)) (.cells #[Vi (s.k 0),Vi (s.k 1),Vi (s.p 0),Vi (s.p 1),Vi (s.z 0),Vi (s.z 1),Vi s.v,.bool s.g] 78)));have HF:Hid (Blk 78 ((w.alloc (.cells (crL C).toArray 29)).alloc (.cells #[Vi (s.k 0),Vi (s.k 1),Vi (s.p 0),Vi (s.p 1),Vi (s.z 0),Vi (s.z 1),Vi s.v,.bool s.g] 78)) (w.heap.size+1) (stpL s)):=Za (by have h:=Blk.new (w.alloc (.cells (crL C).toArray 29)) 78 (stpL s);rw[World.size_alloc] at h;exact h);have Hf:=Za (Zc (Zb w (.cells (crL C).toArray 29)) (Zb (w.alloc (.cells (crL C).toArray 29)) (.cells #[Vi (s.k 0),Vi (s.k 1),Vi (s.p 0),Vi (s.p 1),Vi (s.z 0),Vi (s.z 1),Vi s.v,.bool s.g] 78)));have hstp:(stpL s).toArray=#[Vi (s.k 0),Vi (s.k 1),Vi (s.p 0),Vi (s.p 1),Vi (s.z 0),Vi (s.z 1),Vi s.v,.bool s.g]:=rfl;rw[hstp];clear hstp
 go_enter func30,ntmps30
 go_upto_region 1 with fail;generalize (w.alloc (.cells (crL C).toArray 29)).alloc (.cells #[Vi (s.k 0),Vi (s.k 1),Vi (s.p 0),Vi (s.p 1),Vi (s.z 0),Vi (s.z 1),Vi s.v,.bool s.g] 78)=v0 at *;generalize w.heap.size+1=QS at HF⊢;generalize hQK:w.heap.size=QK at HK⊢;clear hQK;have ev:=(HF.out.cell (j:=6) rfl).1
 go_upto_region 3 with(go_at_call 38;refine Sm (hi4 _) ?_);clear ev hi4
 go_loopw [5,6] (fun fi ix wr=>∃i:Nat,i≤2∧ix=Vi i∧fi=.bool (stpU C s i)∧Blk 78 wr QS (stpL s)∧Blk 29 wr QK (crL C)∧Bw w wr) (fun _ ix _=>2-(intOf ix).toNat)
 case atStart=>exact⟨0,by omega,rfl,rfl,HF.out,HK.out,Hf.out⟩
 case round=>
  clear HF HK Hf;obtain⟨i,hi2,rfl,rfl,hf,hkk,hbw⟩:=hrel
  by_cases hi:i<2
  · have i0:(0:Int)≤(i:Int):=by omega
    have i1:(i:Int)<2:=by omega
    have hi1:=Hh.out i;have hi2':=Hi.out i;have hi3:=Hj.out i;obtain⟨p0,p1⟩:=Hk.out i hi
    have hwr:IntKind.i64.wrap (-C.a i 3)=-C.a i 3:=by rw[Xo]<;>omega
    have Hc:Hid (stpU C s (i+1)=(stpU C s i&&(betw (s.k i) (-100) 100&&(betw (s.p i) (-C.a i 3) (C.a i 3)&&betw (s.z i) 0 8589934591)))):=Za rfl;have Hd:=Za (hkk.sub (i*15) 15);rw[cr_axi C hi] at Hd;have HA:=Zb wr (.cells (axL C i).toArray 26);have HF:=Za (hf.later HA);have HK:=Za (hkk.later HA);have Hb:=Za (Zc hbw HA);have Hg:Hid (Blk 26 (wr.alloc (.cells (axL C i).toArray 26)) wr.heap.size (axL C i)):=Za (Blk.new wr _ _);clear hf hbw hkk HA;generalize stpU C s i=b0 at *;generalize betw (s.k i) (-100) 100=b1 at *;generalize betw (s.p i) (-C.a i 3) (C.a i 3)=b2 at *;generalize betw (s.z i) 0 8589934591=b3 at*
    go_upto_region 6 with(first
     |(refine Lm 26 (.tmp 17) rfl QK (i*15) (axL C i) Hd.out underlying26 Zs ?_)
     |(refine Sq 26 _ _ rfl ?_;refine Xy (c':=(axL C i).toArray) (.tmp 7) (.tmp 18) rfl rfl rfl rfl rfl rfl (Zn _ rfl) ?_))
    clear Hd;generalize wr.alloc (.cells (axL C i).toArray 26)=v1 at *;generalize wr.heap.size=QA at Hg⊢;have xk:=(HF.out.cell (stp_k s hi)).1;have xp:=(HF.out.cell (stp_p s hi)).1;have xz:=(HF.out.cell (stp_z s hi)).1;have xa:=(Hg.out.cell (j:=3) rfl).1
    cases b0
    · clear hi1 hi2' hi3;refine Cs [19,20,21,22,23,24,25,26,27,28,29,30,31,32,33,34,35,36,37,38,39,40,41,42,43,44,45] ?_;refine Cp 0 19 [] ?_;refine Cp 1 20 [0] ?_;refine Cz 2 21 [1] ?_ (hw:=fun y w hF=>Zl (congrArg some hF.1));refine Cz 3 22 [1] ?_ (hw:=fun y w hF=>Zl (congrArg some hF.1));refine Cz 4 23 [1] ?_ (hw:=fun y w hF=>Zl (congrArg some hF.1));refine Cz 5 24 [1] ?_ (hw:=fun y w hF=>Zl (congrArg some hF.1));refine Cz 6 25 [1] ?_ (hw:=fun y w hF=>Zl (congrArg some hF.1));refine Cp 7 26 [1,6] ?_;refine Cp 8 27 [7] ?_;refine Cz 9 28 [8] ?_ (hw:=fun y w hF=>Zl (congrArg some hF.1));refine Cz 10 29 [8] ?_ (hw:=fun y w hF=>Zl (congrArg some hF.1));refine Cz 11 30 [8] ?_ (hw:=fun y w hF=>Zl (congrArg some hF.1));refine Cz 12 31 [8] ?_ (hw:=fun y w hF=>Zl (congrArg some hF.1));refine Cz 13 32 [8] ?_ (hw:=fun y w hF=>Zl (congrArg some hF.1));refine Cz 14 33 [8] ?_ (hw:=fun y w hF=>Zl (congrArg some hF.1));refine Cz 15 34 [8] ?_ (hw:=fun y w hF=>Zl (congrArg some hF.1));refine Cz 16 35 [8] ?_ (hw:=fun y w hF=>Zl (congrArg some hF.1));refine Cz 17 36 [8] ?_ (hw:=fun y w hF=>Zl (congrArg some hF.1));refine Cz 18 37 [8] ?_ (hw:=fun y w hF=>Zl (congrArg some hF.1));refine Cp 19 38 [8,18] ?_;refine Cp 20 39 [19] ?_;refine Cz 21 40 [20] ?_ (hw:=fun y w hF=>Zl (congrArg some hF.1));refine Cz 22 41 [20] ?_ (hw:=fun y w hF=>Zl (congrArg some hF.1));refine Cz 23 42 [20] ?_ (hw:=fun y w hF=>Zl (congrArg some hF.1));refine Cz 24 43 [20] ?_ (hw:=fun y w hF=>Zl (congrArg some hF.1));refine Cz 25 44 [20] ?_ (hw:=fun y w hF=>Zl (congrArg some hF.1));refine Cp 26 45 [20,25] ?_;refine Cn 1 28 [27] (fun y u1 hB hf=>?_);have Ha:=Za hB;clear hB hf;refine Tq 27 Ha.out ?_;simp only[Act.put,Ly];refine Dn ?_;go_simp;have hB:=Ha.out;clear Ha;generalize u1=v2 at hB⊢;refine Ek ?_;go_wp2_with fail;go_roundw
      case rel=>exact⟨i+1,by omega,by go_num,by rw[Hc.out];rfl,HF.out.later hB,HK.out.later hB,Zc Hb.out hB⟩
      case measure=>simp[intOf];omega
    cases b1
    · clear hi2' hi3;refine Cs [19,20,21,22,23,24,25,26,27,28,29,30,31,32,33,34,35,36,37,38,39,40,41,42,43,44,45] ?_;refine Cp 0 19 [] ?_;refine Cp 1 20 [0] ?_;refine Cp 2 21 [1] ?_ (hw:=fun y w hF=>Zf (congrArg some hF.1));refine Cp 3 22 [1] ?_ (hw:=fun y w hF=>Zf (congrArg some hF.1));refine Cp 4 23 [3,2,1] ?_ (hw:=fun y w hF=>Zf (congrArg some hF.2.2.1));refine Cq (fun _ h=>cell_later h xk) 5 24 [4,1] ?_ (hw:=fun y w hF=>Zf (congrArg some hF.2.1));refine Cc 6 25 [5,1] (fun y w h _=>Z8 (hi1 _)) ?_ (hw:=fun y w hF=>Zf (congrArg some hF.2.1));refine Cp 7 26 [1,6] ?_;refine Cp 8 27 [7] ?_;refine Cz 9 28 [8] ?_ (hw:=fun y w hF=>Zl (congrArg some hF.1));refine Cz 10 29 [8] ?_ (hw:=fun y w hF=>Zl (congrArg some hF.1));refine Cz 11 30 [8] ?_ (hw:=fun y w hF=>Zl (congrArg some hF.1));refine Cz 12 31 [8] ?_ (hw:=fun y w hF=>Zl (congrArg some hF.1));refine Cz 13 32 [8] ?_ (hw:=fun y w hF=>Zl (congrArg some hF.1));refine Cz 14 33 [8] ?_ (hw:=fun y w hF=>Zl (congrArg some hF.1));refine Cz 15 34 [8] ?_ (hw:=fun y w hF=>Zl (congrArg some hF.1));refine Cz 16 35 [8] ?_ (hw:=fun y w hF=>Zl (congrArg some hF.1));refine Cz 17 36 [8] ?_ (hw:=fun y w hF=>Zl (congrArg some hF.1));refine Cz 18 37 [8] ?_ (hw:=fun y w hF=>Zl (congrArg some hF.1));refine Cp 19 38 [8,18] ?_;refine Cp 20 39 [19] ?_;refine Cz 21 40 [20] ?_ (hw:=fun y w hF=>Zl (congrArg some hF.1));refine Cz 22 41 [20] ?_ (hw:=fun y w hF=>Zl (congrArg some hF.1));refine Cz 23 42 [20] ?_ (hw:=fun y w hF=>Zl (congrArg some hF.1));refine Cz 24 43 [20] ?_ (hw:=fun y w hF=>Zl (congrArg some hF.1));refine Cz 25 44 [20] ?_ (hw:=fun y w hF=>Zl (congrArg some hF.1));refine Cp 26 45 [20,25] ?_;refine Cn 1 28 [27] (fun y u1 hB hf=>?_);have Ha:=Za hB;clear hB hf;refine Tq 27 Ha.out ?_;simp only[Act.put,Ly];refine Dn ?_;go_simp;have hB:=Ha.out;clear Ha;generalize u1=v2 at hB⊢;refine Ek ?_;go_wp2_with fail;go_roundw
      case rel=>exact⟨i+1,by omega,by go_num,by rw[Hc.out];rfl,HF.out.later hB,HK.out.later hB,Zc Hb.out hB⟩
      case measure=>simp[intOf];omega
    cases b2
    · clear hi3;refine Cs [19,20,21,22,23,24,25,26,27,28,29,30,31,32,33,34,35,36,37,38,39,40,41,42,43,44,45] ?_;refine Cp 0 19 [] ?_;refine Cp 1 20 [0] ?_;refine Cp 2 21 [1] ?_ (hw:=fun y w hF=>Zf (congrArg some hF.1));refine Cp 3 22 [1] ?_ (hw:=fun y w hF=>Zf (congrArg some hF.1));refine Cp 4 23 [3,2,1] ?_ (hw:=fun y w hF=>Zf (congrArg some hF.2.2.1));refine Cq (fun _ h=>cell_later h xk) 5 24 [4,1] ?_ (hw:=fun y w hF=>Zf (congrArg some hF.2.1));refine Cc 6 25 [5,1] (fun y w h _=>Z8 (hi1 _)) ?_ (hw:=fun y w hF=>Zf (congrArg some hF.2.1));refine Cp 7 26 [1,6] ?_;refine Cp 8 27 [7] ?_;refine Cp 9 28 [8] ?_ (hw:=fun y w hF=>Zf (congrArg some hF.1));refine Cp 10 29 [8] ?_ (hw:=fun y w hF=>Zf (congrArg some hF.1));refine Cp 11 30 [10,9,8] ?_ (hw:=fun y w hF=>Zf (congrArg some hF.2.2.1));refine Cq (fun _ h=>cell_later h xp) 12 31 [11,8] ?_ (hw:=fun y w hF=>Zf (congrArg some hF.2.1));refine Cp 13 32 [8] ?_ (hw:=fun y w hF=>Zf (congrArg some hF.1));refine Cq (fun _ h=>cell_later h xa) 14 33 [13,8] ?_ (hw:=fun y w hF=>Zf (congrArg some hF.2.1));refine Cp 15 34 [14,8] ?_ (hw:=fun y w hF=>Zf (congrArg some hF.2.1));refine Cp 16 35 [8] ?_ (hw:=fun y w hF=>Zf (congrArg some hF.1));refine Cq (fun _ h=>cell_later h xa) 17 36 [16,8] ?_ (hw:=fun y w hF=>Zf (congrArg some hF.2.1));refine Cc 18 37 [12,15,17,8] (fun y w h _=>Z8 (hi2' _)) ?_ (hw:=fun y w hF=>Zf (congrArg some hF.2.2.2.1));refine Cp 19 38 [8,18] ?_;refine Cp 20 39 [19] ?_;refine Cz 21 40 [20] ?_ (hw:=fun y w hF=>Zl (congrArg some hF.1));refine Cz 22 41 [20] ?_ (hw:=fun y w hF=>Zl (congrArg some hF.1));refine Cz 23 42 [20] ?_ (hw:=fun y w hF=>Zl (congrArg some hF.1));refine Cz 24 43 [20] ?_ (hw:=fun y w hF=>Zl (congrArg some hF.1));refine Cz 25 44 [20] ?_ (hw:=fun y w hF=>Zl (congrArg some hF.1));refine Cp 26 45 [20,25] ?_;refine Cn 1 28 [27] (fun y u1 hB hf=>?_);have Ha:=Za hB;clear hB hf;refine Tq 27 Ha.out ?_;simp only[Act.put,Ly];refine Dn ?_;go_simp;have hB:=Ha.out;clear Ha;generalize u1=v2 at hB⊢;refine Ek ?_;go_wp2_with fail;go_roundw
      case rel=>exact⟨i+1,by omega,by go_num,by rw[Hc.out];rfl,HF.out.later hB,HK.out.later hB,Zc Hb.out hB⟩
      case measure=>simp[intOf];omega
    refine Cs [19,20,21,22,23,24,25,26,27,28,29,30,31,32,33,34,35,36,37,38,39,40,41,42,43,44,45] ?_;refine Cp 0 19 [] ?_;refine Cp 1 20 [0] ?_;refine Cp 2 21 [1] ?_ (hw:=fun y w hF=>Zf (congrArg some hF.1));refine Cp 3 22 [1] ?_ (hw:=fun y w hF=>Zf (congrArg some hF.1));refine Cp 4 23 [3,2,1] ?_ (hw:=fun y w hF=>Zf (congrArg some hF.2.2.1));refine Cq (fun _ h=>cell_later h xk) 5 24 [4,1] ?_ (hw:=fun y w hF=>Zf (congrArg some hF.2.1));refine Cc 6 25 [5,1] (fun y w h _=>Z8 (hi1 _)) ?_ (hw:=fun y w hF=>Zf (congrArg some hF.2.1));refine Cp 7 26 [1,6] ?_;refine Cp 8 27 [7] ?_;refine Cp 9 28 [8] ?_ (hw:=fun y w hF=>Zf (congrArg some hF.1));refine Cp 10 29 [8] ?_ (hw:=fun y w hF=>Zf (congrArg some hF.1));refine Cp 11 30 [10,9,8] ?_ (hw:=fun y w hF=>Zf (congrArg some hF.2.2.1));refine Cq (fun _ h=>cell_later h xp) 12 31 [11,8] ?_ (hw:=fun y w hF=>Zf (congrArg some hF.2.1));refine Cp 13 32 [8] ?_ (hw:=fun y w hF=>Zf (congrArg some hF.1));refine Cq (fun _ h=>cell_later h xa) 14 33 [13,8] ?_ (hw:=fun y w hF=>Zf (congrArg some hF.2.1));refine Cp 15 34 [14,8] ?_ (hw:=fun y w hF=>Zf (congrArg some hF.2.1));refine Cp 16 35 [8] ?_ (hw:=fun y w hF=>Zf (congrArg some hF.1));refine Cq (fun _ h=>cell_later h xa) 17 36 [16,8] ?_ (hw:=fun y w hF=>Zf (congrArg some hF.2.1));refine Cc 18 37 [12,15,17,8] (fun y w h _=>Z8 (hi2' _)) ?_ (hw:=fun y w hF=>Zf (congrArg some hF.2.2.2.1));refine Cp 19 38 [8,18] ?_;refine Cp 20 39 [19] ?_;refine Cp 21 40 [20] ?_ (hw:=fun y w hF=>Zf (congrArg some hF.1));refine Cp 22 41 [20] ?_ (hw:=fun y w hF=>Zf (congrArg some hF.1));refine Cp 23 42 [22,21,20] ?_ (hw:=fun y w hF=>Zf (congrArg some hF.2.2.1));refine Cq (fun _ h=>cell_later h xz) 24 43 [23,20] ?_ (hw:=fun y w hF=>Zf (congrArg some hF.2.1));refine Cc 25 44 [24,20] (fun y w h _=>Z8 (hi3 _)) ?_ (hw:=fun y w hF=>Zf (congrArg some hF.2.1));refine Cp 26 45 [20,25] ?_;refine Cn 1 28 [27] (fun y u1 hB hf=>?_);have Ha:=Za hB;clear hB hf;refine Tq 27 Ha.out ?_;simp only[Act.put,Ly];refine Dn ?_;go_simp;have hB:=Ha.out;clear Ha;generalize u1=v2 at hB⊢;refine Ek ?_;go_wp2_with fail;go_roundw
    case rel=>exact⟨i+1,by omega,by go_num,by rw[Hc.out];rfl,HF.out.later hB,HK.out.later hB,Zc Hb.out hB⟩
    case measure=>simp[intOf];omega
  · obtain rfl:i=2:=by omega
    have Hb:=Za hbw;clear hf hbw hkk;generalize stpU C s 2=b at*
    cases b
    · go_wp2_with (go_at_call 14;refine Sm (Ys 1 _) ?_);go_ret;exact⟨by rw[HE.out];rfl,Hb.out⟩
    · go_wp2_with (go_at_call 14;refine Sm (Xw 1 _) ?_);go_ret;exact⟨by rw[HE.out];rfl,Hb.out⟩
theorem fold_rp(R:Rp):List.foldl (fun(cs:Array Value) (x:Value×Nat)=>cs.setIfInBounds x.snd x.fst) Qbk (rpL R).zipIdx=(rpL R).toArray:=by kernel_rfl
theorem buildFl(C:CR)(p:Option Addr)(n c:Nat)(T:FS)(w:World):(Instr.build 173 #[(0,.agg (crL C).toArray),(1,.slice p n c),(2,.agg (stL T).toArray)]).run prog w=.ok (.agg (flL C p n c T 0 (fun _=>0) (fun _ _=>0)).toArray) w:=by kernel_rfl
theorem wpList_buildFl{op:Oper}{a:Act}(C:CR)(p:Option Addr)(n c:Nat)(T:FS)(x y z:Operand)(hgd:op.guard=none)(ho:op.op=.build 173 #[(0,x),(1,y),(2,z)])(hx:a.eval x=.agg (crL C).toArray)(hy:a.eval y=.slice p n c)(hz:a.eval z=.agg (stL T).toArray)(h:wpList prog ops Q rest (a.put op.dst (.agg (flL C p n c T 0 (fun _=>0) (fun _ _=>0)).toArray)) w):wpList prog ops Q (op::rest) a w:=by
 refine wpList_plain hgd fun _ hK=>?_
 unfold Oper.wp execOp
 simp only[ho,List.map_toArray,List.map_cons,List.map_nil,hx,hy,hz,Sem.run_bind,buildFl,Result.andThen_ok];exact hK _ _ h
theorem fly_ok(C:CR)(pf:Option Addr)(cf:Nat)(l:List Ft)(ps:Option Addr)(cs:Nat)(ss:List Stp)(hc:crE C=0)(hf:∀k,k<l.length→FtOK C (ftAt l k))(hs:∀k,k<ss.length→SA C (stAt ss k))(hl:l.length≤20)(hn:ss.length≤300)(w:World)(hg:GV w)(hcr:CrL w C)(hF:Fts w pf l)(hS:Sts w ps ss):
 Calls prog 31 #[.agg (crL C).toArray,.slice pf l.length cf,.slice ps ss.length cs] w fun e w'=>(∃s,e=.returned (.tuple #[s,.nilIface])∧RpO w.heap.size w' s (rpU C l ss ss.length))∧Bw w w':=by
 have Hn:=Za (fun u (h:Bw w u)=>fcheck_ok C pf cf l ps cs ss hc hf hs hl hn u (hg.later h) (hcr.later h) (hF.later h) (hS.later h));have Ho:=Za (fun u (h:Bw w u)=>new_c C hc u (hg.later h) (hcr.later h));have Hl:=Za (flU_gi (l:=l) hc hs);have Hw:=Za hs;have Hh:=Za hg;have Hi:=Za hcr;have Hj:=Za hF;have Hk:=Za hS;have HK:=Za (Blk.new w 29 (crL C));have Ha:=Za (Zb w (.cells (crL C).toArray 29));clear hg hcr hF hS hf hs hc
 go_enter func31,ntmps31
 go_upto_region 1 with fail;generalize w.alloc (.cells (crL C).toArray 29)=v0 at *;generalize hQK:w.heap.size=QK at HK⊢
 go_upto_region 4 with(first
  |(refine Lm 29 (.tmp 3) rfl QK 0 (crL C) HK.out.range underlying29 Zt ?_)
  |(go_at_call 79;refine Sb (Hn.out _ Ha.out) fun v1 hb=>?_;replace HK:=Za (HK.out.later hb);replace Ha:=Za (Zc Ha.out hb);clear hb))
 go_upto_region 7 with(first
  |(refine Lm 29 (.tmp 3) rfl QK 0 (crL C) HK.out.range underlying29 Zt ?_)
  |(go_at_call 80;refine(Ho.out _ Ha.out).mono ?_;rintro e v2 ⟨⟨T,rfl,hT,hSV⟩,hb⟩;replace HK:=Za (HK.out.later hb);replace Ha:=Za (Zc Ha.out hb);have HT:=Za hT;have Hc:=Za hSV;clear hb hT hSV)
  |(refine Sq 41 _ _ rfl ?_;refine Ny (c':=(stL T).toArray) (.tmp 9) (.tmp 26) rfl rfl rfl rfl rfl rfl (stL_one T) ?_))
 have Hm:Hid (Blk 41 (v2.alloc (.cells (stL T).toArray 41)) v2.heap.size (stL T)):=Za (Blk.new v2 _ _);replace HK:=Za (HK.out.later (Zb v2 (.cells (stL T).toArray 41)));replace Hc:=Za (Hc.out.later (Zb v2 (.cells (stL T).toArray 41)));replace Ha:=Za (Zc Ha.out (Zb v2 (.cells (stL T).toArray 41)));generalize v2.alloc (.cells (stL T).toArray 41)=v3 at *;generalize v2.heap.size=QT at Hm⊢
 go_upto_region 9 with(first
  |(refine Lm 29 (.tmp 3) rfl QK 0 (crL C) HK.out.range underlying29 Zt ?_)
  |(refine Lm 41 (.tmp 9) rfl QT 0 (stL T) Hm.out.range underlying41 (N3 T) ?_)
  |(refine wpList_buildFl C pf l.length cf T (.tmp 31) (.tmp 32) (.tmp 33) rfl rfl rfl rfl rfl ?_))
 have Hp:Hid (Blk 173 (v3.alloc (.cells (flL C pf l.length cf T 0 (fun _=>0) (fun _ _=>0)).toArray 173)) v3.heap.size (flL C pf l.length cf T ((0:Nat):Int) (flU C l ss 0).x (flU C l ss 0).at')):=Za (Blk.new v3 _ _);have HA:=Zb v3 (.cells (flL C pf l.length cf T 0 (fun _=>0) (fun _ _=>0)).toArray 173);have Hq:Hid (∀i,i<2→1≤((q0 C).sv i).length):=Za (fun i hi=>by have a:=(Hl.out 0 (by omega)).len hi;have b:=(Z9 (Hl.out 0 (by omega)).cr hi).1;show 1≤((flU C l ss 0).sv i).length;omega);have Hr:Hid (SvN T v3.heap.size):=Za (fun i hi g o e=>Nat.ne_of_lt (vls_lt (Hc.out i hi).2.2 (Hq.out i hi) g o e));have Hs:=Za (fun z g o e=>Nat.ne_of_lt (fts_lt (Hj.out.later Ha.out) z g o e));have Hx:=Za (fun z g o e=>Nat.ne_of_lt (sts_lt (Hk.out.later Ha.out) z g o e));have Hy:=Za (crl_n (Hi.out.later Ha.out));have Hz:Hid (v3.heap.size≠0):=Za (Nat.ne_of_gt (Hh.out.later Ha.out).lt);have Ht:=Za Ha.out.size;replace Hc:=Za (Hc.out.later HA);replace Ha:=Za (Zc Ha.out HA);replace Hh:=Za (Hh.out.later Ha.out);replace Hi:=Za (Hi.out.later Ha.out);replace Hj:=Za (Hj.out.later Ha.out);replace Hk:=Za (Hk.out.later Ha.out);have HB:Hid ((v3.alloc (.cells (flL C pf l.length cf T 0 (fun _=>0) (fun _ _=>0)).toArray 173)).heap.size=v3.heap.size+1):=Za (World.size_alloc _ _);clear HA HK Hm Hn Ho;generalize v3.alloc (.cells (flL C pf l.length cf T 0 (fun _=>0) (fun _ _=>0)).toArray 173)=v4 at *;generalize v3.heap.size=B at*
 go_upto_region 10 with fail
 go_loopw [12,38] (fun rep ix wr=>∃(k:Nat) (T:FS),k≤ss.length∧ix=Vi k∧SaS T (flU C l ss k).S∧Blk 173 wr B (flL C pf l.length cf T k (flU C l ss k).x (flU C l ss k).at')∧SvL wr T (flU C l ss k).sv∧SvN T B∧RpO (B+1) wr rep (rpU C l ss k)∧Oth v4 wr B) (fun _ ix _=>ss.length-(intOf ix).toNat)
 case atStart=>exact⟨0,T,by omega,rfl,HT.out,Hp.out,Hc.out,Hr.out,RpO.nil _ _,Oth.refl _ _⟩
 case round=>
  clear HT Hp Hc Hr Hq;obtain⟨k,T,hk,rfl,hT,hB,hv,hsn,hrp,ho⟩:=hrel
  by_cases hlt:k<ss.length
  · obtain⟨b,off,rfl,hr⟩:=(ho.sts Hx.out Hk.out).at hlt;have Hf:Hid (∀g,Value.ownBlock u12=some g→B+1≤g∧g<wr.heap.size):=Za (fun g hg=>World.ownsRow.lt hrp g hg);have hfr:=fun u (h:Bw wr u)=>fly_frame C pf cf l ss hl hn Hl.out Hw.out B k hlt T hT u (hB.later h) ((ho.fts Hs.out Hj.out).later h) ((ho.gv Hz.out Hh.out).later h) ((ho.crl Hy.out Hi.out).later h) (hv.later h) Hs.out;have HE:Hid (rpU C l ss (k+1)=rpU C l ss k++[rpF (flU C l ss (k+1))]):=Za rfl;have HC:Hid ((rpU C l ss k).length≤1000):=Za (by rw[rpU_len];omega)
    have k0:(0:Int)≤(k:Int):=by omega
    have k1:(k:Int)<(ss.length:Int):=by omega
    generalize stAt ss k=s at *;have c0:=hr 0 _ rfl;have c1:=hr 1 _ rfl;have c2:=hr 2 _ rfl;have c3:=hr 3 _ rfl;have c4:=hr 4 _ rfl;have c5:=hr 5 _ rfl;have c6:=hr 6 _ rfl;have c7:=hr 7 _ rfl;simp only[Nat.add_zero] at c0;have HA:=Zb wr (.cells #[Vi (s.k 0),Vi (s.k 1),Vi (s.p 0),Vi (s.p 1),Vi (s.z 0),Vi (s.z 1),Vi s.v,.bool s.g] 78);have HX:Hid (Blk 78 (wr.alloc (.cells #[Vi (s.k 0),Vi (s.k 1),Vi (s.p 0),Vi (s.p 1),Vi (s.z 0),Vi (s.z 1),Vi s.v,.bool s.g] 78)) wr.heap.size [Vi (s.k 0),Vi (s.k 1),Vi (s.p 0),Vi (s.p 1),Vi (s.z 0),Vi (s.z 1),Vi s.v,.bool s.g]):=Za (Blk.new wr _ _);have hf5:=hfr _ HA;have HD:=Za (Nat.lt_of_lt_of_le hB.lt HA.size);have Hb:=Za (hrp.later HA);have HO:=Za (ho.later HA);replace Hf:=Za (fun g hg=>(show B+1≤g∧g<(wr.alloc (.cells #[Vi (s.k 0),Vi (s.k 1),Vi (s.p 0),Vi (s.p 1),Vi (s.z 0),Vi (s.z 1),Vi s.v,.bool s.g] 78)).heap.size from⟨(Hf.out g hg).1,Nat.lt_of_lt_of_le (Hf.out g hg).2 HA.size⟩));clear hr hB hv hsn hrp ho hT hfr HA
    go_upto_region 12 with fail;generalize wr.alloc (.cells #[Vi (s.k 0),Vi (s.k 1),Vi (s.p 0),Vi (s.p 1),Vi (s.z 0),Vi (s.z 1),Vi s.v,.bool s.g] 78)=v5 at *;clear c0 c1 c2 c3 c4 c5 c6 c7;generalize wr.heap.size=QX at HX⊢;have c0:=(HX.out.cell (j:=0) rfl).1;have c1:=(HX.out.cell (j:=1) rfl).1;have c2:=(HX.out.cell (j:=2) rfl).1;have c3:=(HX.out.cell (j:=3) rfl).1;have c4:=(HX.out.cell (j:=4) rfl).1;have c5:=(HX.out.cell (j:=5) rfl).1;have c6:=(HX.out.cell (j:=6) rfl).1;have c7:=(HX.out.cell (j:=7) rfl).1;have Hu:Hid (Calls prog 81 #[.pointer (some (Ad B 0)),.agg #[Vi (s.k 0),Vi (s.k 1),Vi (s.p 0),Vi (s.p 1),Vi (s.z 0),Vi (s.z 1),Vi s.v,.bool s.g]] v5 fun e w'=>e=.returned .nilIface∧∃T',SaS T' (flU C l ss (k+1)).S∧Blk 173 w' B (flL C pf l.length cf T' ((k+1:Nat):Int) (flU C l ss (k+1)).x (flU C l ss (k+1)).at')∧SvL w' T' (flU C l ss (k+1)).sv∧SpN T' v5.heap.size∧Oth v5 w' B):=Za hf5;clear hf5
    go_upto_region 15 with(go_at_call 81;refine Hu.out.mono ?_;rintro e v6 ⟨rfl,T',hT',hB',hv',hsp,ho'⟩;replace Hb:=Za (Hb.out.oth (Nat.lt_succ_self B) ho');replace HO:=Za (HO.out.trans ho');have HT:=Za hT';have Hd:=Za hB';have Hg:=Za hv';have Hv:=Za hsp;have HI:=Za ho'.1;clear hT' hB' hv' hsp ho' c0 c1 c2 c3 c4 c5 c6 c7);have hrep:=fun u (h:Bw v6 u)=>report_any B C pf l.length cf T' ((k+1:Nat):Int) (flU C l ss (k+1)).x (flU C l ss (k+1)).at' (flU C l ss (k+1)).sv u (Hd.out.later h) (Hg.out.later h);rw[rpF_same HT.out] at hrep;have HF:Hid (B+1≤v6.heap.size):=Za (Hd.out.lt);clear Hu HX;generalize rpF (flU C l ss (k+1))=R at *;have hrl:=Ue R
    go_wp2_with (first
     |(go_at_call 82;refine Sb (hrep _ (Below.refl _ _)) fun v7 hb=>?_;replace hb:=Zc hb (Zb v7 (.cells (rpL R).toArray 95));replace Hb:=Za (Hb.out.later hb);replace HO:=Za (HO.out.later hb);replace Hd:=Za (Hd.out.later hb);replace Hg:=Za (Hg.out.later hb);have HG:=Za (lay_rp v7 R);have HH:=Za (Nat.le_trans HF.out hb.size);clear hb)
     |(at_builtin;rw[fold_rp];refine wpList_apP (.tmp 48) (.tmp 51) rfl rfl Hb.out HH.out HG.out HC.out (fun s' v9 h1 h2=>?_);replace Hb:=Za h1;replace HO:=Za (HO.out.grew h2 (fun g e=>by rw[HB.out];exact(Hf.out g e).1));replace Hd:=Za (Hd.out.grew' h2 (fun e=>by have:=(Hf.out B e.symm).1;omega));replace Hg:=Za (svl_grew Hg.out h2 (fun i hi g o e e2=>by obtain⟨G,e3,h3⟩:=Hv.out i hi;rw[e3] at e;cases e;have:=(Hf.out _ e2.symm).2;omega));clear h1 h2))
    exact⟨⟨k+1,T',by omega,by go_num,HT.out,Hd.out,Hg.out,Hv.out.svn HD.out,by rw[HE.out];exact Hb.out,HO.out⟩,by simp[intOf];omega⟩
  · obtain rfl:k=ss.length:=by omega
    have Hb:=Za hrp;have HO:=Za ho;clear hT hB hv hsn hrp ho;go_wp2_with fail;go_ret2;exact⟨⟨_,rfl,Hb.out.weak (Nat.le_trans Ht.out (Nat.le_succ B))⟩,Ha.out.grown HO.out.grown Ha.out.size (fun g e=>by cases e;exact Ht.out)⟩
theorem eqI2(d:Nat)(a b:Int)(w:World):(Op.equalIn (d+1+1) 76 (.agg #[Vi a,Vi b]) (.agg #[Vi a,Vi b])).run prog w=.ok true w:=by
 obtain⟨i,hi,_⟩:=info_int;rw[run_equalIn_array w _ _ _ underlying76 hi,who_one,show List.range 2=[0,1] from rfl]
 simp[Op.eqItems,go_sem]
theorem eqI4(d:Nat)(a b c e:Int)(w:World):(Op.equalIn (d+1+1) 92 (.agg #[Vi a,Vi b,Vi c,Vi e]) (.agg #[Vi a,Vi b,Vi c,Vi e])).run prog w=.ok true w:=by
 obtain⟨i,hi,_⟩:=info_int;rw[run_equalIn_array w _ _ _ underlying92 hi,who_one,show List.range 4=[0,1,2,3] from rfl]
 simp[Op.eqItems,go_sem]
theorem cellsI4:prog.cellsOf 92=4:=by kernel_rfl
theorem infoA4:(prog.info? 92).map (·.size)=some 4:=by kernel_rfl
theorem eqI24(d:Nat)(a b c e f g h j:Int)(w:World):(Op.equalIn (d+1+1+1) 93 (.agg #[Vi a,Vi b,Vi c,Vi e,Vi f,Vi g,Vi h,Vi j]) (.agg #[Vi a,Vi b,Vi c,Vi e,Vi f,Vi g,Vi h,Vi j])).run prog w=.ok true w:=by
 obtain⟨i,hi⟩:=infoOf _ _ infoA4;have h1:=fun d=>eqI4 d a b c e;have h2:=fun d=>eqI4 d f g h j;rw[run_equalIn_array w _ _ _ underlying93 hi,cellsI4,show List.range 2=[0,1] from rfl]
 simp[Op.eqItems,go_sem,h1,h2]
theorem eqRp(d:Nat)(R:Rp)(w:World):(Op.equalIn (d+1+1+1+1) 95 (.agg (rpL R).toArray) (.agg (rpL R).toArray)).run prog w=.ok true w:=by
 have h1:=fun d=>eqI2 d (R.x 0) (R.x 1);have h2:=fun d=>eqI2 d (R.l 0) (R.l 1);have h3:=fun d=>eqI2 d (R.s 0) (R.s 1);have h4:=fun d=>eqI24 d (R.a 0 0) (R.a 0 1) (R.a 0 2) (R.a 0 3) (R.a 1 0) (R.a 1 1) (R.a 1 2) (R.a 1 3)
 unfold rpL
 simp[go_sem,h1,h2,h3,h4]
end Go.Proofs.YtnfdfiholcelaaaGreatDoor
