
import Derived.Test.YtnfdfiholcelaaaGreatDoorJp30
set_option maxRecDepth 100000
set_option maxHeartbeats 20000000
namespace Go.Proofs.YtnfdfiholcelaaaGreatDoor
open Go.RowKit Plain Tryz
variable {B K X g i k m:Nat}{C:CR}{L:List Sv}{S T:FS}{a:Option Addr}{at':Nat→Nat→Int}{b n now x:Int}{l:List Ft}{p:Nat→Int}{r:Rd}{s:Stp}{sv v:Nat→List Sv}{u w w0:World}{ws:List Int}
theorem rdOf_pk(h:Yc r=true):rdOf (pk1 r)=some r:=by
 obtain⟨a,b,c,d⟩:=r;have h1:=pack_odd (show mayR a b c d=true from h);have h2:=pack_read (show mayR a b c d=true from h)
 unfold readV at h2
 simp only[Value.agg.injEq,Array.mk.injEq,List.cons.injEq,Value.int.injEq,true_and,and_true] at h2;obtain⟨e1,e2,e3,e4⟩:=h2
 show rdOf (Zz a b c d)=_
 unfold rdOf
 rw[if_pos h1,e1,e2,e3,e4]
theorem pkU_take(l:List Rd):∀k,k≤l.length→pkU l k=(l.take k).map pk1
 |0,_=>by simp[pkU]
 |k+1,h=>by
  rw[pkU,pkU_take l k (by omega),List.take_succ_eq_append_getElem (by omega),List.map_append]
  unfold rat
  rw[List.getD_eq_getElem?_getD,List.getElem?_eq_getElem (by omega)]
  rfl
theorem fpkU_map(l:List Rd):pkU l l.length=l.map pk1:=by rw[pkU_take l _ (Nat.le_refl _),List.take_length]
theorem rat_mem{l:List Rd}(hk:k<l.length):rat l k∈l:=by
 unfold rat
 rw[List.getD_eq_getElem?_getD,List.getElem?_eq_getElem hk];exact List.getElem_mem hk
theorem wds_of{l:List Rd}(hm:∀r∈l,Yc r=true)(h:U32s w a (l.map pk1)):Wds w a (l.map pk1):=by
 refine⟨?_,fun x hx=>?_⟩
 · rcases h with h|⟨g,h,hc⟩
   · exact .inl h
   · exact .inr ⟨g,0,h,fun k hk=>by rw[Nat.zero_add];exact hc k hk⟩
 · obtain⟨r,hr,rfl⟩:=List.mem_map.1 hx;exact pack_bd (hm r hr)
theorem X1{a c d:Int}(ha:0≤a∧a<256)(hb:0≤b∧b<4)(hc:0≤c∧c<4)(hd:-262144≤d∧d<262144):Yc (a,b,c,d)=true:=by
 unfold Yc mayR
 simp only[Bool.and_eq_true,decide_eq_true_eq];exact⟨⟨⟨ha,hb⟩,hc⟩,hd⟩
theorem cW_bd(x:Int):-262144≤cW x∧cW x<262144:=by have:=Y2 (v:=x) (show(-262144:Int)≤262143 by omega);unfold cW;omega
theorem cD_bd(x:Int):-262144≤cD x∧cD x<262144:=by have:=Y2 (v:=x) (show(-262143:Int)≤262143 by omega);unfold cD;omega
theorem chR_may{ax k lab:Int}(hl:0≤lab∧lab<256)(hk:0≤k∧k<4):∀r∈chR l now ax k lab x,Yc r=true:=by
 intro r hr
 unfold chR sdL at hr
 split at hr
 · obtain rfl:=List.mem_singleton.1 hr;exact X1 hl hk (by omega) (cW_bd x)
 · split at hr
   · cases hr
   · obtain rfl:=List.mem_singleton.1 hr
     unfold spo
     dsimp only
     split
     · exact X1 hl hk (by omega) (cD_bd _)
     · split
       · exact X1 hl hk (by omega) (cW_bd _)
       · split
         · exact X1 hl hk (by omega) (cW_bd _)
         · exact X1 hl hk (by omega) (cW_bd _)
theorem chU_may{N z:Int}(hi:i<2):∀k,k≤3→∀r∈chU l now i N x z k,Yc r=true
 |0,_,r,hr=>by cases hr
 |k+1,hk,r,hr=>by
  rw[chU] at hr
  rcases List.mem_append.1 hr with hr|hr
  · exact chU_may hi k (by omega) r hr
  · exact chR_may (by omega) (by omega) r hr
theorem suU_may{at':Nat→Int}(hi:i<2)(ha:∀k,k<4→-1000≤at' k∧at' k≤1000):∀k,k≤4→∀r∈suU i at' k,Yc r=true
 |0,_,r,hr=>by cases hr
 |k+1,hk,r,hr=>by
  rw[suU] at hr
  rcases List.mem_append.1 hr with hr|hr
  · exact suU_may hi ha k (by omega) r hr
  · obtain rfl:=List.mem_singleton.1 hr;have:=ha k (by omega);exact X1 (by omega) (by omega) (by omega) (by omega)
theorem spR_may{v:Int}:∀k,k≤3→∀r∈spR l now v k,Yc r=true
 |0,_,r,hr=>by cases hr
 |k+1,hk,r,hr=>by
  rw[spR] at hr
  rcases List.mem_append.1 hr with hr|hr
  · exact spR_may k (by omega) r hr
  · exact chR_may (by omega) (by omega) r hr
theorem saR_may{x:Nat→Int}(h4:∀i,i<2→C.a i 4≤4)(ha:∀i,i<2→∀k,k<4→-1000≤at' i k∧at' i k≤1000)(hk:∀i,i<2→-100≤s.k i∧s.k i≤100):∀r∈saR C l now x at' s,Yc r=true:=by
 have hax:∀i,i≤2→∀r∈axU C l now x at' s i,Yc r=true:=by
  intro i
  induction i with
  |zero=>intro _ r hr;cases hr
  |succ i ih=>
   intro hi r hr;rw[axU] at hr;have h5:=h4 i (by omega)
   rcases List.mem_append.1 hr with hr|hr
   · exact ih (by omega) r hr
   · unfold axR at hr
     rcases List.mem_append.1 hr with hr|hr
     · rcases List.mem_append.1 hr with hr|hr
       · exact chU_may (by omega) 3 (by omega) r hr
       · exact suU_may (by omega) (ha i (by omega)) _ (by omega) r hr
     · obtain rfl:=List.mem_singleton.1 hr;have:=hk i (by omega);exact X1 (by omega) (by omega) (by omega) (by omega)
 intro r hr
 unfold saR at hr
 rcases List.mem_append.1 hr with hr|hr
 · rcases List.mem_append.1 hr with hr|hr
   · exact hax 2 (by omega) r hr
   · exact spR_may 3 (by omega) r hr
 · split at hr
   · obtain rfl:=List.mem_singleton.1 hr
     rfl
   · cases hr
theorem rdU_lst(i j:Nat)(L:List Sv)(k:Nat)(hj:j<2)(hi:i<2)(hk:k<4):∀n,n≤4→lst (64+4*(i:Int)+k) 3 (rdU j L n)=if j=i∧k<n then some (rd1 i L k) else none
 |0,_=>by rw[if_neg (by omega)];rfl
 |n+1,hn=>by
  rw[rdU,lst_snoc,rdU_lst i j L k hj hi hk n (by omega),show(rd1 j L n).1=64+4*(j:Int)+n from rfl,show(rd1 j L n).2.1=3 from rfl]
  by_cases h:j=i∧k=n
  · obtain⟨rfl,rfl⟩:=h;rw[if_pos ⟨rfl,rfl⟩,if_pos ⟨rfl,by omega⟩]
  · rw[if_neg (fun e=>h (by omega))]
    by_cases h2:j=i∧k<n
    · rw[if_pos h2,if_pos ⟨h2.1,by omega⟩]
    · rw[if_neg h2,if_neg (fun e=>by omega)]
theorem rdA_lst(v:Nat→List Sv)(n:Int)(hi:i<2)(hl:∀i,i<2→(v i).length≤4)(hk:k<(v i).length):lst (64+4*(i:Int)+k) 3 (rdA v n)=some (rd1 i (v i) k):=by
 have h0:=hl 0 (by omega);have h1:=hl 1 (by omega);have hi4:=hl i hi
 unfold rdA
 rw[lst_snoc,if_neg (by dsimp only;omega)]
 show lst _ _ (rdX v 1++rdU 1 (v 1) (v 1).length)=_
 rw[lst_append,rdU_lst i 1 (v 1) k (by omega) hi (by omega) _ h1]
 have e:rdX v 1=rdU 0 (v 0) (v 0).length:=by simp[rdX]
 rw[e,rdU_lst i 0 (v 0) k (by omega) hi (by omega) _ h0]
 rcases Qtw i with rfl|rfl
 · rw[if_neg (by omega),if_pos ⟨rfl,hk⟩];rfl
 · rw[if_pos ⟨rfl,hk⟩];rfl
theorem plR_plc(C:CR)(l:List Ft)(now:Int)(i k:Nat)(L:List Sv):plR (C.a i 5) (some (rd1 i L k)) (ail l now i k true)=plc C l now i k (svAt L k):=by
 unfold plR plc rd1
 dsimp only
 cases h:(svAt L k).2.2
 · first|(simp;done)|(simp;rfl)
 · simp
theorem fS3_eq{S':FS}{l:List Rd}(h:S'.bk=S.bk∧S'.hd=S.hd∧S'.n=S.n):vS3 C S' l sv=vS3 C S l sv∧(sS3 C S' l sv).bk=(sS3 C S l sv).bk∧(sS3 C S' l sv).hd=(sS3 C S l sv).hd∧(sS3 C S' l sv).n=(sS3 C S l sv).n:=by
 obtain⟨b,p,n,c,d,m⟩:=S;obtain⟨b',p',n',c',d',m'⟩:=S';obtain⟨h1,h2,h3⟩:=h
 dsimp only at h1 h2 h3
 subst h1 h2 h3;exact⟨rfl,rfl,rfl,rfl⟩
theorem step_f(C:CR)(S:FS)(sv:Nat→List Sv)(l:List Rd)(hm:∀r∈l,Yc r=true)(aw:Option Addr)(cw:Nat)(w:World)(hg:GV w)(hl:CrL w C)(hv:SvL w S sv)(hw:U32s w aw (l.map pk1))(h64:l.length≤64)(h0:stE C S sv=0):
 Calls prog 16 #[.agg (crL C).toArray,.agg (stL S).toArray,.slice aw l.length cw] w fun e w'=>(∃T g c,e=.returned (.tuple #[.agg (stL T).toArray,.slice (some (Ad g 0)) (rdA (vS3 C S (gat rdOf (l.map pk1)) sv) (sS3 C S (gat rdOf (l.map pk1)) sv).n).length c,.nilIface])∧(T.bk=(sS3 C S (gat rdOf (l.map pk1)) sv).bk∧T.hd=(sS3 C S (gat rdOf (l.map pk1)) sv).hd∧T.n=(sS3 C S (gat rdOf (l.map pk1)) sv).n)∧SvL w' T (vS3 C S (gat rdOf (l.map pk1)) sv)∧U32s w' (some (Ad g 0)) ((rdA (vS3 C S (gat rdOf (l.map pk1)) sv) (sS3 C S (gat rdOf (l.map pk1)) sv).n).map pk1)∧∀i,i<2→∃G,T.sp i=some (Ad G 0)∧w.heap.size≤G)∧Bw w w':=by
 have h:=fccStep_all C S sv (l.map pk1) aw cw w hg hl hv (wds_of hm hw) (by rw[List.length_map];exact h64) h0 (fun K wz S' hS hL=>stOK_of (ws:=l.map pk1) h0 K wz hS hL);rw[List.length_map] at h;refine h.mono ?_;rintro e w' ⟨S',g,c,he,hS,h3,h4,h5,h6⟩;obtain⟨e1,e2,e3,e4⟩:=fS3_eq (C:=C) (l:=gat rdOf (l.map pk1)) (sv:=sv) hS;rw[e1,e4] at he;rw[e1] at h3;rw[e1,e4,fpkU_map] at h4;exact⟨⟨_,g,c,he,⟨e2,e3,e4⟩,h3,h4,h6⟩,h5⟩
theorem told_fnd(hm:∀r∈rdA v n,Yc r=true)(hi:i<2)(hl:∀i,i<2→(v i).length≤4)(hk:k<(v i).length):fnd (64+4*(i:Int)+k) 3 (gat rdOf ((rdA v n).map pk1))=some (rd1 i (v i) k):=by
 rw[fnd_gat _ _ _ _ _ (fun r hr=>rdOf_pk (hm r hr))];exact rdA_lst v n hi hl hk
theorem mvX_plU:∀m:Nat,(∀k,k<m→p k=plc C l now i k (svAt L k))→mvX p m=plU C l now i L m
 |0,_=>rfl
 |m+1,h=>by rw[mvX,plU,mvX_plU m (fun k hk=>h k (by omega)),h m (by omega)]
theorem mvA_if{q:Nat→Int}(h:∀k,k<m→p k=q k)(j k:Nat):mvA at' i p m j k=if j=i∧k<m then q k else at' j k:=by
 unfold mvA upd
 by_cases hj:j=i
 · subst hj
   by_cases hk:k<m
   · rw[if_pos rfl,if_pos hk,if_pos ⟨rfl,hk⟩,h k hk]
   · rw[if_pos rfl,if_neg hk,if_neg (fun e=>hk e.2)]
 · rw[if_neg hj,if_neg (fun e=>hj e.1)]
theorem said_any(B:Nat)(C:CR)(pf:Option Addr)(cf:Nat)(l:List Ft)(S:FS)(now:Int)(x:Nat→Int)(at':Nat→Nat→Int)(s:Stp)(w:World)(hk:Blk 173 w B (flL C pf l.length cf S now x at'))(hf:Fts w pf l)(hl:l.length≤1000)(hN:∀i,i<2→0≤C.a i 2∧C.a i 2≤1000)(h4:∀i,i<2→2≤C.a i 4∧C.a i 4≤4)(hz:∀i,i<2→0≤s.z i∧s.z i≤8589934591)(hx:∀i,i<2→-10000000≤x i∧x i≤10000000):
 Calls prog 129 #[.pointer (some (Ad B 0)),.agg (stpL s).toArray] w fun e w'=>(∃g c,e=.returned (.slice (some (Ad g 0)) (saR C l now x at' s).length c)∧Rds w' (some (Ad g 0)) (saR C l now x at' s))∧Bw w w':=by
 have Hi:=Za (Zb w (.cells (stpL s).toArray 78));have HK:=Za (fun u (h:Below (w.alloc (.cells (stpL s).toArray 78)).heap.size (w.alloc (.cells (stpL s).toArray 78)) u)=>(hk.later (Zb w (.cells (stpL s).toArray 78))).later h);have HF:=Za (fun u (h:Below (w.alloc (.cells (stpL s).toArray 78)).heap.size (w.alloc (.cells (stpL s).toArray 78)) u)=>(hf.later (Zb w (.cells (stpL s).toArray 78))).later h);have HP:=Za (fun u (h:Below (w.alloc (.cells (stpL s).toArray 78)).heap.size (w.alloc (.cells (stpL s).toArray 78)) u)=>(Blk.new w 78 (stpL s)).later h);have HN:=Za hN;have H4:=Za h4;have HZ:=Za hz;have HX:=Za hx;have Hm:=Za (axU_len C l now x at' s (fun i hi=>(h4 i hi).2));have Hn:=Za (spR_len l now s.v);have Hd:Hid (saR C l now x at' s=axU C l now x at' s 2++spR l now s.v 3++(if s.g then[(40,3,3,1)] else[])):=Za rfl;clear hk hf hN h4 hz hx;have hstp:(stpL s).toArray=#[Vi (s.k 0),Vi (s.k 1),Vi (s.p 0),Vi (s.p 1),Vi (s.z 0),Vi (s.z 1),Vi s.v,.bool s.g]:=rfl;rw[hstp] at Hi HK HF HP⊢;clear hstp;generalize saR C l now x at' s=sa at*
 go_enter func129,ntmps129
 go_upto_region 2 with fail;generalize w.alloc (.cells #[Vi (s.k 0),Vi (s.k 1),Vi (s.p 0),Vi (s.p 1),Vi (s.z 0),Vi (s.z 1),Vi s.v,.bool s.g] 78)=v0 at *;generalize w.heap.size=QS at HP⊢;have Hc:=Za ((HK.out v0 (Below.refl _ _)).sub 0 30);rw[fl_axes] at Hc
 go_upto_region 3 with(refine Lm 27 (.tmp 16) rfl B 0 (axL C 0++axL C 1) Hc.out underlying27 Ub ?_);clear Hc
 go_loopw [5,18] (fun s0 ix wr=>∃i:Nat,i≤2∧ix=Vi i∧ROw v0 wr s0 (axU C l now x at' s i)) (fun _ ix _=>2-(intOf ix).toNat)
 case atStart=>exact⟨0,by omega,rfl,ROw.nil v0⟩
 case round=>
  obtain⟨i,hi2,rfl,hr⟩:=hrel
  by_cases hi:i<2
  · have hidx:=axidx_i C hi
    have i0:(0:Int)≤(i:Int):=by omega
    have i1:(i:Int)<2:=by omega
    have HR:=Za (hr.later (Zb wr (.cells (axL C i).toArray 26)));have Ha:Hid (Blk 26 (wr.alloc (.cells (axL C i).toArray 26)) wr.heap.size (axL C i)):=Za (Blk.new wr _ _);have Hf:=Za (Hm.out i (by omega));have Ho:=Za (HX.out i hi);clear hr
    go_upto_region 5 with(refine Sq 26 _ _ rfl ?_;refine Xy (c':=(axL C i).toArray) (.tmp 7) (.tmp 21) rfl rfl rfl rfl rfl rfl (Zn _ rfl) ?_);clear hidx;generalize wr.alloc (.cells (axL C i).toArray 26)=v1 at *;generalize wr.heap.size=QA at Ha⊢;have xz:=((HP.out v1 HR.out.2).cell (stp_z s hi)).1;refine Cs [22,23,24,25,26,27,28] ?_;refine Cl (x:=.tmp 7) 0 22 [] (fun y w _ u hSw=>⟨Zg Ha.out.range hSw,rfl⟩) underlying26 Zs ?_;refine Cp 1 23 [] ?_;refine Cp 2 24 [] ?_;refine Cp 3 25 [2,1] ?_;refine Cq (fun _ h=>cell_later h xz) 4 26 [3] ?_;refine Cc 5 27 [0,4] (fun y w h _=>noises_c C i (s.z i) (HN.out i hi) (HZ.out i hi) _) ?_;refine Cp 6 28 [] ?_;refine Ce (fun y u1 hB hf=>?_);have Hg:=Za hB;clear hB hf;go_simp;have hB:=Hg.out;clear Hg;generalize u1=v2 at hB⊢;refine Ek ?_;clear xz;replace HR:=Za (HR.out.later hB);replace Ha:=Za (Ha.out.later hB);clear hB
    go_upto_region 6 with fail
    go_loopw [5,28] (fun s1 ix wr=>∃k:Nat,k≤3∧ix=Vi k∧ROw v0 wr s1 (axU C l now x at' s i++chU l now i (C.a i 2) (x i) (s.z i) k)∧Blk 26 wr QA (axL C i)) (fun _ ix _=>3-(intOf ix).toNat)
    case atStart=>exact⟨0,Nat.zero_le _,rfl,by rw[chU,List.append_nil];exact HR.out,Ha.out⟩
    case round=>
     clear HR Ha;obtain⟨k,hk,rfl,hr,hax⟩:=hrel
     by_cases hlt:k<3
     · have hix:=nz_idx (noi (C.a i 2) (s.z i)) hlt;have hnb:=noi_bd (z:=s.z i) (HN.out i hi).1 k;have hN1:=(HN.out i hi).2;have hxb:=Ho.out
       have k0:(0:Int)≤(k:Int):=by omega
       have k1:(k:Int)<3:=by omega
       have Hh:Hid (chU l now i (C.a i 2) (x i) (s.z i) (k+1)=chU l now i (C.a i 2) (x i) (s.z i) k++chR l now i k (1+i) (x i+noi (C.a i 2) (s.z i) k)):=Za rfl;have hch:=fun u (h:Bw v0 u)=>channel_any B pf cf l now i k (1+i) (x i+noi (C.a i 2) (s.z i) k) hl u ((HK.out u h).cell (j:=32) rfl).1 ((HK.out u h).cell (j:=63) rfl).1 (HF.out u h);have hc1:=chR_len l now i k (1+i) (x i+noi (C.a i 2) (s.z i) k);have hc2:=chU_len l now i (C.a i 2) (x i) (s.z i) k;have HR:=Za hr;have Ha:=Za hax;have xi:=((HK.out wr hr.2).cell (fl_x C pf l.length cf S now x at' hi)).1;generalize chR l now i k (1+i) (x i+noi (C.a i 2) (s.z i) k)=cr at *;generalize noi (C.a i 2) (s.z i) k=nk at *;generalize x i=xx at *;clear hr hax
       go_wp2_with (first
        |(go_at_call 189;refine(hch _ HR.out.2).mono ?_;rintro e v ⟨⟨p,cap,rfl,hrd⟩,hb⟩;have Hb:=Za hrd;replace HR:=Za (HR.out.later hb);replace Ha:=Za (Ha.out.later hb);clear hb hrd hch xi)
        |(at_builtin;refine Nb (.tmp 32) (.tmp 46) rfl rfl HR.out Hb.out (by rw[List.length_append];have:=Hf.out;omega) (fun s9 u9 hR hT=>?_);replace HR:=Za hR;(try replace Ha:=Za (hT _ _ _ (by decide) Ha.out));clear hR hT))
       go_roundw
       case rel=>exact⟨k+1,by omega,by go_num,by rw[Hh.out,←List.append_assoc];exact HR.out,Ha.out⟩
       case measure=>simp[intOf];omega
     · obtain rfl:k=3:=by omega
       obtain⟨m,hm⟩:∃m:Nat,C.a i 4=(m:Int):=⟨(C.a i 4).toNat,by have:=(H4.out i hi).1;omega⟩
       have hm2:2≤m∧m≤4:=by have:=H4.out i hi;omega
       have hmt:(C.a i 4).toNat=m:=by omega
       have Hp:Hid (axR C l now i (x i) (at' i) s=chU l now i (C.a i 2) (x i) (s.z i) 3++suU i (at' i) m++[(32+(i:Int),3,3,s.k i)]):=Za (by rw[←hmt];rfl);have x4:=(hax.cell (show(axL C i)[4]?=some (Vi (m:Int)) by rw[←hm];rfl)).1;have hc2:=chU_len l now i (C.a i 2) (x i) (s.z i) 3
       have m0:(0:Int)≤(m:Int):=by omega
       have m4:(m:Int)≤4:=by omega
       have HR:=Za hr;clear hr hax hm hmt
       go_upto_region 10 with fail;refine Cs [49,50,51,52,53,54,55,56,57,58] ?_;refine Cp 0 49 [] ?_;refine Cp 1 50 [] ?_;refine Cp 2 51 [0] ?_;refine Cp 3 52 [2] ?_;refine Cp 4 53 [3,1] ?_;refine Cp 5 54 [] ?_;refine Cq (fun _ h=>cell_later h x4) 6 55 [5] ?_;refine Cp 7 56 [4,6] ?_;refine Cp 8 57 [7] ?_;refine Cp 9 58 [] ?_;refine Ce (fun y u1 hB hf=>?_);have Hg:=Za hB;clear hB hf;go_simp;have hB:=Hg.out;clear Hg;generalize u1=v3 at hB⊢;refine Ek ?_;clear x4;replace HR:=Za (HR.out.later hB);clear hB
       go_upto_region 11 with fail
       go_loopw [5,58] (fun s1 ix wr=>∃k:Nat,k≤m∧ix=Vi k∧ROw v0 wr s1 (axU C l now x at' s i++chU l now i (C.a i 2) (x i) (s.z i) 3++suU i (at' i) k)) (fun _ ix _=>m-(intOf ix).toNat)
       case atStart=>exact⟨0,Nat.zero_le _,rfl,by rw[suU,List.append_nil];exact HR.out⟩
       case round=>
        clear HR;obtain⟨k,hk,rfl,hr⟩:=hrel
        by_cases hlt:k<m
        · have xk:=((HK.out wr hr.2).cell (fl_at C pf l.length cf S now x at' hi (show k<4 by omega))).1;have Hh:Hid (suU i (at' i) (k+1)=suU i (at' i) k++[(16+4*(i:Int)+k,3,3,at' i k)]):=Za rfl;have hsl:=suU_len i (at' i) k;have hul:=Nw 16 (i:Int) (k:Int) (by omega) (by omega) (by omega);have hco:=common_any (16+4*(i:Int)+(k:Int)) (at' i k)
          have k0:(0:Int)≤(k:Int):=by omega
          have k1:(k:Int)<(m:Int):=by omega
          have HR:=Za hr;have Hj:=Za hsl;generalize at' i k=ak at*
          unfold rdL at hco
          dsimp only at hco
          clear hr hsl;generalize 16+4*(i:Int)+(k:Int)=lb at*
          go_wp2_with (first
           |(go_at_call 108;refine Sm (hul _) ?_)
           |(go_at_call 190;refine Sb (hco _) fun v hb=>?_;replace HR:=Za ((HR.out.later hb).later (Zb v (.cells (rdL (lb,3,3,ak)).toArray 161)));have Hb:=Za (rds_new v (lb,3,3,ak));clear hb xk)
           |(at_builtin;refine Nb (.tmp 63) (.tmp 69) rfl rfl HR.out Hb.out (by rw[List.length_append,List.length_append,Hj.out];have:=Hf.out;simp only[List.length_cons,List.length_nil];omega) (fun s9 u9 hR hT=>?_);replace HR:=Za hR;(try replace Ha:=Za (hT _ _ _ (by decide) Ha.out));clear hR hT))
          go_roundw
          case rel=>exact⟨k+1,by omega,by go_num,by rw[Hh.out,←List.append_assoc];exact HR.out⟩
          case measure=>simp[intOf];omega
        · obtain rfl:k=m:=by omega
          have xk:=((HP.out wr hr.2).cell (stp_k s hi)).1;have hco:=common_any (32+(i:Int)) (s.k i);have hsl:=suU_len i (at' i) k;have Hj:=Za hsl;have HR:=Za hr;have Hk:Hid (axU C l now x at' s (i+1)=axU C l now x at' s i++axR C l now i (x i) (at' i) s):=Za rfl;generalize s.k i=sk at*
          unfold rdL at hco
          dsimp only at hco
          clear hr hsl
          go_wp2_with (first
           |(go_at_call 190;refine Sb (hco _) fun v hb=>?_;replace HR:=Za ((HR.out.later hb).later (Zb v (.cells (rdL (32+(i:Int),3,3,sk)).toArray 161)));have Hb:=Za (rds_new v (32+(i:Int),3,3,sk));clear hb xk)
           |(at_builtin;refine Nb (.tmp 72) (.tmp 80) rfl rfl HR.out Hb.out (by rw[List.length_append,List.length_append,Hj.out];have:=Hf.out;simp only[List.length_cons,List.length_nil];omega) (fun s9 u9 hR hT=>?_);replace HR:=Za hR;(try replace Ha:=Za (hT _ _ _ (by decide) Ha.out));clear hR hT))
          go_roundw
          case rel=>exact⟨i+1,by omega,by go_num,by rw[Hk.out,Hp.out,←List.append_assoc,←List.append_assoc];exact HR.out⟩
          case measure=>simp[intOf];omega
  · obtain rfl:i=2:=by omega
    have Hf:=Za (Hm.out 2 (by omega));have HR:=Za hr;clear hr
    go_upto_region 18 with fail
    go_loopw [5,83] (fun s1 ix wr=>∃k:Nat,k≤3∧ix=Vi k∧ROw v0 wr s1 (axU C l now x at' s 2++spR l now s.v k)) (fun _ ix _=>3-(intOf ix).toNat)
    case atStart=>exact⟨0,Nat.zero_le _,rfl,by rw[spR,List.append_nil];exact HR.out⟩
    case round=>
     clear HR;obtain⟨k,hk,rfl,hr⟩:=hrel;have hsl:=Hn.out k
     by_cases hlt:k<3
     · have Hh:Hid (spR l now s.v (k+1)=spR l now s.v k++chR l now 2 k 8 s.v):=Za rfl;have hch:=fun u (h:Bw v0 u)=>channel_any B pf cf l now 2 k 8 s.v hl u ((HK.out u h).cell (j:=32) rfl).1 ((HK.out u h).cell (j:=63) rfl).1 (HF.out u h);have hc1:=chR_len l now 2 k 8 s.v;have xv:=((HP.out wr hr.2).cell (j:=6) rfl).1;have HR:=Za hr;generalize chR l now 2 k 8 s.v=cr at *;generalize s.v=sv at *;clear hr
       go_wp2_with (first
        |(go_at_call 189;refine(hch _ HR.out.2).mono ?_;rintro e v ⟨⟨p,cap,rfl,hrd⟩,hb⟩;have Hb:=Za hrd;replace HR:=Za (HR.out.later hb);clear hb hrd hch xv)
        |(at_builtin;refine Nb (.tmp 86) (.tmp 91) rfl rfl HR.out Hb.out (by rw[List.length_append];have:=Hf.out;omega) (fun s9 u9 hR hT=>?_);replace HR:=Za hR;(try replace Ha:=Za (hT _ _ _ (by decide) Ha.out));clear hR hT))
       go_roundw
       case rel=>(repeat apply Exists.intro);exact⟨⟨k+1,by omega,by go_num,by rw[Hh.out,←List.append_assoc];exact HR.out⟩,rfl⟩
       case measure=>simp[intOf];omega
     · obtain rfl:k=3:=by omega
       have xg:=((HP.out wr hr.2).cell (j:=7) rfl).1;have HR:=Za hr;have hco:=common_any 40 1
       unfold rdL at hco
       dsimp only at hco
       have Hq:Hid (0<(axU C l now x at' s 2).length):=Za (by show 0<(axU C l now x at' s 1++axR C l now 1 (x 1) (at' 1) s).length;unfold axR;simp only[List.length_append,List.length_cons];omega);clear hr
       cases hg:s.g
       · rw[hg] at xg;rw[hg,if_neg (by simp),List.append_nil] at Hd;obtain⟨g,cap,rfl,_⟩:=HR.out.1.form (by rw[List.length_append];have:=Hq.out;omega);have Hb:=Za (rds_of_row rfl HR.out.1);have Hl:=Za (Zc Hi.out HR.out.2);rw[←Hd.out] at Hb;clear HR;go_wp2_with fail;go_ret;exact⟨⟨g,cap,by rw[Hd.out];rfl,Hb.out⟩,Hl.out⟩
       · rw[hg] at xg;rw[hg,if_pos rfl] at Hd;have hsl:=Hn.out 3
         go_wp2_with (first
          |(go_at_call 190;refine Sb (hco _) fun v hb=>?_;replace HR:=Za ((HR.out.later hb).later (Zb v (.cells (rdL (40,3,3,1)).toArray 161)));have Hb:=Za (rds_new v (40,3,3,1));clear hb xg)
          |(at_builtin;refine Nb (.tmp 96) (.tmp 98) rfl rfl HR.out Hb.out (by rw[List.length_append];have:=Hf.out;simp only[List.length_cons,List.length_nil];omega) (fun s9 u9 hR hT=>?_);replace HR:=Za hR;(try replace Ha:=Za (hT _ _ _ (by decide) Ha.out));clear hR hT))
         obtain⟨g,cap,rfl,_⟩:=HR.out.1.form (by rw[List.length_append];simp);replace Hb:=Za (rds_of_row rfl HR.out.1);have Hl:=Za (Zc Hi.out HR.out.2);rw[←Hd.out] at Hb;clear HR;go_ret;exact⟨⟨g,cap,by rw[Hd.out];rfl,Hb.out⟩,Hl.out⟩
theorem Ud:(prog.info? 78).map (·.size)=some 8:=by kernel_rfl
theorem stL_info(T:FS):(prog.info? 41).map (·.size)=some (stL T).toArray.size:=by rw[Yk];rfl
theorem N3(T:FS):(prog.info? 41).map (·.size)=some (stL T).length:=by rw[Yk];rfl
theorem stL_one(T:FS):(stL T).toArray.all (·.oneCell')=true:=Zn _ rfl
section
variable (C : CR) (pf : Option Addr) (nf cf : Nat) (S T : FS) (now : Int) (x : Nat → Int) (at' : Nat → Nat → Int)
theorem fl_cr:((flL C pf nf cf S now x at').drop 0).take 32=crL C:=rfl
theorem fl_st:((flL C pf nf cf S now x at').drop 33).take 30=stL S:=rfl
theorem fl_putSt:putL (flL C pf nf cf S now x at') 33 (stL T)=flL C pf nf cf T now x at':=by kernel_rfl
theorem fl_now:(flL C pf nf cf S now x at')[63]?=some (Vi now):=rfl
theorem fl_setNow(v:Int):(flL C pf nf cf S now x at').set 63 (Vi v)=flL C pf nf cf S v x at':=rfl
end
theorem fl_congr{pf:Option Addr}{nf cf:Nat}{x x':Nat→Int}{a a':Nat→Nat→Int}(hx:∀i,i<2→x i=x' i)(ha:∀i,i<2→∀k,k<4→a i k=a' i k):flL C pf nf cf S now x a=flL C pf nf cf S now x' a':=by
 unfold flL
 rw[hx 0 (by omega),hx 1 (by omega),ha 0 (by omega) 0 (by omega),ha 0 (by omega) 1 (by omega),ha 0 (by omega) 2 (by omega),ha 0 (by omega) 3 (by omega),ha 1 (by omega) 0 (by omega),ha 1 (by omega) 1 (by omega),ha 1 (by omega) 2 (by omega),ha 1 (by omega) 3 (by omega)]
theorem Oth.setCells:∀(vs:List Value) (o:Nat) (u:World),Oth w0 u B→Oth w0 (u.setCells B o vs) B
 |[],_,_,h=>h
 |v::r,o,u,h=>Oth.setCells r (o+1) (u.setCell ⟨B,o,none⟩ v) h.set
theorem Oth.below(h:Bw w u):Oth w u B:=(Oth.refl w B).later h
theorem Oth.trans{v:World}(h:Oth w0 u B)(k:Oth u v B):Oth w0 v B:=
 ⟨Nat.le_trans h.1 k.1,k.2.1.trans h.2.1,k.2.2.1.trans h.2.2.1,k.2.2.2.1.trans h.2.2.2.1,fun b h1 h2=>(k.2.2.2.2 b (Nat.lt_of_lt_of_le h1 h.1) h2).trans (h.2.2.2.2 b h1 h2)⟩
theorem Oth.blk{b:Nat}{t:TypeId}{cs:List Value}(h:Oth w u B)(hb:b≠B)(k:Blk t w b cs):Blk t u b cs:=(h.2.2.2.2 b k.lt hb).trans k
theorem Oth.lst{l:List Int}(h:Oth w u B)(hn:l≠[]→∀g o,a=some (Ad g o)→g≠B)(k:Lst w a l):Lst u a l:=by
 rcases k with k|⟨g,o,e,hc⟩
 · exact .inl k
 · exact .inr ⟨g,o,e,fun j hj=>h.cell (hn (fun z=>by rw[z] at hj;simp at hj) g o e) (hc j hj)⟩
theorem Oth.vls{l:List Sv}(h:Oth w u B)(hn:∀g o,a=some (Ad g o)→g≠B)(k:VLs w a l):VLs u a l:=by
 rcases k with k|⟨g,o,e,hc⟩
 · exact .inl k
 · exact .inr ⟨g,o,e,fun j hj=>⟨h.cell (hn g o e) (hc j hj).1,h.cell (hn g o e) (hc j hj).2.1,h.cell (hn g o e) (hc j hj).2.2⟩⟩
theorem Oth.u32{l:List Int}(h:Oth w u B)(hn:∀g o,a=some (Ad g o)→g≠B)(k:U32s w a l):U32s u a l:=by
 rcases k with k|⟨g,e,hc⟩
 · exact .inl k
 · exact .inr ⟨g,e,fun j hj=>h.cell (hn g 0 e) (hc j hj)⟩
theorem Oth.gv(h:Oth w u B)(hn:B≠0)(k:GV w):GV u:=h.cell (Ne.symm hn) k
def CrN(C:CR)(B:Nat):Prop:=∀i,i<2→(C.al i≠[]→∀g o,C.p i=some (Ad g o)→g≠B)∧(C.zl i≠[]→∀g o,C.q i=some (Ad g o)→g≠B)
theorem Oth.crl(h:Oth w u B)(hn:CrN C B)(k:CrL w C):CrL u C:=fun i hi=>
 ⟨(k i hi).1,(k i hi).2.1,(k i hi).2.2.1,h.lst (hn i hi).1 (k i hi).2.2.2.1,h.lst (hn i hi).2 (k i hi).2.2.2.2⟩
def SvN(T:FS)(B:Nat):Prop:=∀i,i<2→∀g o,T.sp i=some (Ad g o)→g≠B
theorem Oth.svl(h:Oth w u B)(hn:SvN S B)(k:SvL w S sv):SvL u S sv:=fun i hi=>⟨(k i hi).1,(k i hi).2.1,h.vls (hn i hi) (k i hi).2.2⟩
def SpN(T:FS)(K:Nat):Prop:=∀i,i<2→∃G,T.sp i=some (Ad G 0)∧K≤G
theorem SpN.svn(h:SpN T K)(hB:B<K):SvN T B:=fun i hi g o e=>by
 obtain⟨G,e2,h2⟩:=h i hi;rw[e2] at e
 cases e
 omega
theorem Oth.grown(h:Oth w u B):w.grownBy u (some B):=⟨h.2.1,h.2.2.1,h.2.2.2.1,h.1,fun k h1 h2=>h.2.2.2.2 k h1 (fun e=>h2 (by rw[e]))⟩
theorem Oth.of(h:w.grownBy u (some B)):Oth w u B:=⟨h.size,h.os,h.tape,h.output,fun b h1 h2=>h.block b h1 (fun e=>h2 (Option.some.inj e))⟩
theorem lst_lt{l:List Int}(k:Lst w a l):l≠[]→∀g o,a=some (Ad g o)→g<w.heap.size:=by
 intro hl g o e
 rcases k with k|⟨g',o',e',hc⟩
 · exact absurd k hl
 · rw[e'] at e;cases e;exact World.block_lt_of_cell? w _ (hc 0 (List.length_pos_iff.2 hl))
theorem fts_lt(k:Fts w a l):l≠[]→∀g o,a=some (Ad g o)→g<w.heap.size:=by
 intro hl g o e
 rcases k with k|⟨g',o',e',hc⟩
 · exact absurd k hl
 · rw[e'] at e;cases e;exact World.block_lt_of_cell? w _ (hc 0 (List.length_pos_iff.2 hl) 0 _ rfl)
theorem vls_lt{l:List Sv}(k:VLs w a l)(hl:1≤l.length):∀g o,a=some (Ad g o)→g<w.heap.size:=by
 intro g o e
 rcases k with k|⟨g',o',e',hc⟩
 · rw[k] at hl;simp at hl
 · rw[e'] at e;cases e;exact World.block_lt_of_cell? w _ (hc 0 (by omega)).1
theorem crl_n(h:CrL w C):CrN C w.heap.size:=fun i hi=>⟨fun z g o e=>Nat.ne_of_lt (lst_lt (h i hi).2.2.2.1 z g o e),fun z g o e=>Nat.ne_of_lt (lst_lt (h i hi).2.2.2.2 z g o e)⟩
def zSt:List Value:=stL ⟨fun _=>⟨fun _=>0,fun _=>false,0⟩,fun _=>none,fun _=>0,fun _=>0,fun _=>(0,0,0),0⟩
theorem Blk.setSt(h:Blk 41 u X zSt)(T:FS):Blk 41 (u.setCells X 0 (stL T)) X (stL T):=by
 have k:=Blk.setCells (stL T) 0 u _ h
 rwa[U8 (stL T) zSt rfl] at k
theorem Blk.there0(h:Blk 41 u X zSt)(T:FS):u.there X 0 (stL T).toArray.size:=h.there (Nat.le_of_ble_eq_true rfl)
theorem fcell_two{p:Addr}{x y:Value}(h:w.cell? p=some x)(k:w.cell? p=some y):x=y:=Option.some.inj (h.symm.trans k)
theorem zst_u32{zs:List Int}(h:Blk 41 w X zSt)(k:U32s w (some (Ad g 0)) zs)(h1:1≤zs.length):g≠X:=by
 rintro rfl
 rcases k with k|⟨g',e,hc⟩
 · rw[k] at h1;simp at h1
 · obtain rfl:g=g':=by simpa using e
   have:=fcell_two (hc 0 (by omega)) (h.cell (j:=0) rfl).1
   cases this
theorem zst_vls{l:List Sv}(h:Blk 41 w X zSt)(k:VLs w (some (Ad g 0)) l)(h1:1≤l.length):g≠X:=by
 rintro rfl
 rcases k with k|⟨g',o',e,hc⟩
 · rw[k] at h1;simp at h1
 · obtain⟨rfl,rfl⟩:g=g'∧0=o':=by simpa using e
   have:=fcell_two (hc 0 (by omega)).2.2 (h.cell (j:=2) rfl).1
   cases this
theorem saR_pos(C:CR)(l:List Ft)(now:Int)(x:Nat→Int)(at':Nat→Nat→Int)(s:Stp):1≤(saR C l now x at' s).length:=by
 unfold saR
 simp only[List.length_append]
 have:1≤(axU C l now x at' s 2).length:=by
  rw[axU,axU]
  unfold axR
  simp only[List.length_append,List.length_singleton]
  omega
 omega
theorem fnd_dat{a:Int}(h:fnd a b (gat rdOf ws)=some r):-262144≤r.2.2.2∧r.2.2.2≤262143:=by
 obtain⟨x,_,hx⟩:=gat_mem rdOf ws r (fnd_mem h)
 unfold rdOf at hx
 split at hx
 · cases hx;exact dat_bd x
 · cases hx
theorem plR_bd{T:Int}{a:Int}{f:Option Ft}(h:0≤T∧T≤1000):-300000≤plR T (fnd a b (gat rdOf ws)) f∧plR T (fnd a b (gat rdOf ws)) f≤300000:=by
 unfold plR
 split
 · omega
 · rename_i r e
   have:=fnd_dat e
   split
   · split
     · rename_i f
       have:=Y2 (v:=f.2.2.2.2) (show -T≤T by omega)
       omega
     · omega
   · omega
theorem rdA_len(v:Nat→List Sv)(n:Int):(rdA v n).length=(v 0).length+(v 1).length+1:=by
 have h:∀i L m,(rdU i L m).length=m:=fun i L m=>by
  induction m with
  |zero=>rfl
  |succ m ih=>rw[rdU,List.length_append,ih];rfl
 simp only[rdA,rdX,List.length_append,h,List.length_nil,List.length_singleton]
 omega
theorem rdA_mem(h:∀k,k<(rdA v n).length→Yc (rat (rdA v n) k)=true):∀r∈rdA v n,Yc r=true:=fun r hr=>by
 obtain⟨k,hk,rfl⟩:=List.getElem_of_mem hr;rw[←rat_eq hk];exact h k hk
def SaS(T S:FS):Prop:=T.bk=S.bk∧T.hd=S.hd∧T.n=S.n
theorem stpF_same{q:FT}(h:SaS T q.S):SaS (stpF C l now ⟨T,q.sv,q.x,q.at'⟩ s).S (stpF C l now q s).S∧(stpF C l now ⟨T,q.sv,q.x,q.at'⟩ s).sv=(stpF C l now q s).sv∧(stpF C l now ⟨T,q.sv,q.x,q.at'⟩ s).x=(stpF C l now q s).x∧(stpF C l now ⟨T,q.sv,q.x,q.at'⟩ s).at'=(stpF C l now q s).at':=by
 obtain⟨e1,e2,e3,e4⟩:=fS3_eq (C:=C) (l:=wsF C l now q s) (sv:=q.sv) h;have e1':vS3 C T (wsF C l now ⟨T,q.sv,q.x,q.at'⟩ s) q.sv=vS3 C q.S (wsF C l now q s) q.sv:=e1;refine⟨⟨e2,e3,e4⟩,e1',?_,?_⟩
 · show(fun i=>q.x i+plU C l now i (vS3 C T (wsF C l now ⟨T,q.sv,q.x,q.at'⟩ s) q.sv i) (C.a i 4).toNat+s.p i)=_
   rw[e1'];rfl
 · show(fun i k=>if k<(C.a i 4).toNat then plc C l now i k (svAt (vS3 C T (wsF C l now ⟨T,q.sv,q.x,q.at'⟩ s) q.sv i) k) else q.at' i k)=_
   rw[e1'];rfl
section
variable {C : CR} {l : List Ft} {now : Int} {x : Nat → Int} {at' : Nat → Nat → Int} {s : Stp}
end
section
variable {C : CR} {l : List Ft} {now : Int} {q : FT} {s : Stp}
end
section
variable {C : CR} {i u : Nat} {L : List Sv} {at' : Nat → Int} {x E : Int} {ws : List Rd}
end
section
variable {C : CR} {i u : Nat} {L : List Sv} {x E y v n k p now : Int} {h : Int × Int × Int} {l : List Ft}
end
structure SA (C:CR) (s:Stp):Prop where
 k:∀i,i<2→-100≤s.k i∧s.k i≤100
 p:∀i,i<2→-C.a i 3≤s.p i∧s.p i≤C.a i 3
 z:∀i,i<2→0≤s.z i∧s.z i≤8589934591
 v:0≤s.v∧s.v≤262143
structure GI (C:CR) (n:Int) (q:FT):Prop where
 st:stE C q.S q.sv=0
 at4:∀i,i<2→∀k,k<4→-1000≤q.at' i k∧q.at' i k≤1000
 x:∀i,i<2→-(5000*n)≤q.x i∧q.x i≤5000*n
theorem Zhw:svAt (List.replicate m svD) k=svD:=by
 unfold svAt
 rw[List.getD_eq_getElem?_getD,List.getElem?_replicate]
 split<;>rfl
theorem cr_ar(h:crE C=0)(hi:i<2):arB (C.a i 5) (C.a i 6) (C.a i 7) (C.a i 10)=true:=arE_arB (show arE (C.a i 5) (C.a i 6) (C.a i 7) (C.a i 10)=0 from Xq h hi (k:=2) (by omega))
theorem Z9(h:crE C=0)(hi:i<2):(2≤C.a i 4∧C.a i 4≤4)∧0≤C.a i 3∧C.a i 3≤1000:=Ua (show rgE (C.a i 4) (C.a i 3)=0 from Xq h hi (k:=0) (by omega))
theorem cr_gok(h:crE C=0)(hi:i<2):GOK (C.a i 0) (C.a i 1) (C.a i 2) (puI C i) (moI C i) (raI C i):=grE_ok (Xq h hi (k:=3) (by omega))
theorem cr_fm(h:crE C=0)(hi:i<2):2*C.a i 2≤C.a i 8∧C.a i 0≤0∧0≤C.a i 1:=by
 have:=(show fmE (C.a i 8) (C.a i 2) (C.a i 0) (C.a i 1)=0 from Xq h hi (k:=5) (by omega))
 unfold fmE at this
 split at this
 · cases this
 · omega
theorem GI.new(h:crE C=0):GI C 0 (q0 C):=by
 have hcs:∀i,i<2→csE C i (List.replicate (C.a i 4).toNat svD)=0:=fun i hi=>by
  have r:=Z9 h hi;have a:=cr_ar h hi;have ar:=Yf a
  unfold csE
  rw[List.length_replicate,if_pos (by omega)];refine seU_mk _ fun k hk=>svE_mk a ?_;rw[Zhw];exact sv_mk (show -C.a i 5≤(0:Int)∧(0:Int)≤C.a i 5 by omega) (show(0:Int)≤0∧(0:Int)≤C.a i 10 by omega) (fun h=>by cases h) (fun _=>show(0:Int)<C.a i 10 by omega)
 have hch:∀i,i<2→chE C i (0,0,0)=0:=fun i hi=>by
  have hr:ruE (C.a i 0) (C.a i 1) (C.a i 11) (C.a i 14) (moI C i) (C.al i) (C.zl i)=0:=Xq h hi (k:=4) (by omega);have hm:=mo_pos h hi;have hf:=cr_fm h hi
  unfold chE hoE
  rw[if_pos hr,if_pos,if_pos]
  · simp only[asB,betw,Bool.and_eq_true,decide_eq_true_eq];omega
  · simp only[stB,betw,Bool.and_eq_true,decide_eq_true_eq];omega
 refine⟨stE_mk h fun k hk=>?_,fun _ _ _ _=>by show -1000≤(0:Int)∧(0:Int)≤1000;omega,fun _ _=>by show -(5000*0)≤(0:Int)∧(0:Int)≤5000*0;omega⟩
 rcases(show k=0∨k=1∨k=2∨k=3∨k=4∨k=5∨k=6∨k=7 by omega) with rfl|rfl|rfl|rfl|rfl|rfl|rfl|rfl
 · rfl
 · rfl
 · rfl
 · rfl
 · exact hcs 0 (by omega)
 · exact hch 0 (by omega)
 · exact hcs 1 (by omega)
 · exact hch 1 (by omega)
theorem plc_bd{s:Sv}(h0:0≤C.a i 5)(h:-C.a i 5≤s.1∧s.1≤C.a i 5):-C.a i 5≤plc C l now i k s∧plc C l now i k s≤C.a i 5:=by
 unfold plc
 split
 · omega
 · split
   · exact Y2 (by omega)
   · exact h
theorem plU_bd(h:∀k,k<L.length→-1000≤plc C l now i k (svAt L k)∧plc C l now i k (svAt L k)≤1000):∀n:Nat,n≤L.length→-(1000*(n:Int))≤plU C l now i L n∧plU C l now i L n≤1000*(n:Int)
 |0,_=>by simp[plU]
 |n+1,hn=>by
  have a:=plU_bd h n (by omega);have b:=h n (by omega);rw[plU];omega
section
variable {C : CR} {l : List Ft} {now n : Int} {q : FT} {s : Stp}
theorem GI.len(h:GI C n q)(hi:i<2):((q.sv i).length:Int)=C.a i 4:=(Xe h.st hi).1
theorem GI.cr(h:GI C n q):crE C=0:=(Yd h.st).1
theorem GI.may(h:GI C n q)(hs:SA C s):∀r∈saR C l now q.x q.at' s,Yc r=true:=saR_may (fun _ hi=>(Z9 h.cr hi).1.2) h.at4 hs.k
theorem GI.step(h:GI C n q)(hs:SA C s):GI C (n+1) (stpF C l now q s):=by
 have st:=stE_step (ws:=(saR C l now q.x q.at' s).map pk1) h.st
 have hb:∀i,i<2→∀k,k<(vS3 C q.S (wsF C l now q s) q.sv i).length→-C.a i 5≤plc C l now i k (svAt (vS3 C q.S (wsF C l now q s) q.sv i) k)∧plc C l now i k (svAt (vS3 C q.S (wsF C l now q s) q.sv i) k)≤C.a i 5:=fun i hi k hk=>by
  have sl:=Xe st hi;have ar:=Yf (cr_ar h.cr hi);have:=Yv (Wo (seU_all _ sl.2 k hk)).2;exact plc_bd (by omega) this.1
 have ht:∀i,i<2→C.a i 5≤1000∧0≤C.a i 5:=fun i hi=>by have:=Yf (cr_ar h.cr hi);omega
 have hlen:∀i,i<2→((vS3 C q.S (wsF C l now q s) q.sv i).length:Int)=C.a i 4:=fun i hi=>(Xe st hi).1;refine⟨st,fun i hi k hk=>?_,fun i hi=>?_⟩
 · show -1000≤(if k<(C.a i 4).toNat then _ else _)∧(if k<(C.a i 4).toNat then _ else _)≤1000
   have hl:=hlen i hi
   split
   · have:=hb i hi k (by omega);have:=ht i hi;omega
   · exact h.at4 i hi k hk
 · show -(5000*(n+1))≤q.x i+plU C l now i (vS3 C q.S (wsF C l now q s) q.sv i) (C.a i 4).toNat+s.p i∧q.x i+plU C l now i (vS3 C q.S (wsF C l now q s) q.sv i) (C.a i 4).toNat+s.p i≤5000*(n+1)
   have hl:=hlen i hi;have r:=Z9 h.cr hi;have:=plU_bd (C:=C) (l:=l) (now:=now) (i:=i) (L:=vS3 C q.S (wsF C l now q s) q.sv i) (fun k hk=>by have:=hb i hi k hk;have:=ht i hi;omega) (C.a i 4).toNat (by omega);have:=h.x i hi;have:=hs.p i hi
   omega
end
theorem flU_gi{C:CR}{l:List Ft}{ss:List Stp}(h:crE C=0)(hs:∀k,k<ss.length→SA C (stAt ss k)):∀n:Nat,n≤ss.length→GI C n (flU C l ss n)
 |0,_=>GI.new h
 |n+1,hn=>by
  have:=(flU_gi (l:=l) h hs n (by omega)).step (l:=l) (now:=(n:Int)) (hs n (by omega));rw[flU];rw[show((n+1:Nat):Int)=(n:Int)+1 by omega];exact this
section
variable {C : CR} {l : List Ft} {now n : Int} {q : FT} {s : Stp}
end
def xkF(q Q:FT)(i:Nat):Nat→Int:=fun j=>if j<i then Q.x j else q.x j
def akF(q Q:FT)(i:Nat):Nat→Nat→Int:=fun j=>if j<i then Q.at' j else q.at' j
theorem akF_self(q Q:FT)(i:Nat):akF q Q i i=q.at' i:=if_neg (Nat.lt_irrefl i)
theorem akF_next(q Q:FT)(i:Nat):akF q Q (i+1) i=Q.at' i:=if_pos (Nat.lt_succ_self i)
theorem akF_else(q Q:FT){j:Nat}(h:j≠i):akF q Q (i+1) j=akF q Q i j:=by
 unfold akF
 by_cases h1:j<i
 · rw[if_pos h1,if_pos (by omega)]
 · rw[if_neg h1,if_neg (by omega)]
theorem xkF_zero(q Q:FT):xkF q Q 0=q.x:=by funext j;unfold xkF;rw[if_neg (by omega)]
theorem akF_zero(q Q:FT):akF q Q 0=q.at':=by funext j;unfold akF;rw[if_neg (by omega)]
theorem fl_two(C:CR)(pf:Option Addr)(nf cf:Nat)(S:FS)(now:Int)(q Q:FT):flL C pf nf cf S now (xkF q Q 2) (akF q Q 2)=flL C pf nf cf S now Q.x Q.at':=
 fl_congr (fun j hj=>by unfold xkF;rw[if_pos hj]) (fun j hj k _=>by unfold akF;rw[if_pos hj])
theorem own_ne{n c:Nat}{l:List Rd}(h:OwnL K (.slice a n c) l w)(hK:B<K):∀g,a=some (Ad g 0)→g≠B:=by
 rintro g rfl rfl;have:=(h.1.lt g rfl).1
 omega
section
variable {C : CR} {l : List Ft} {now : Int} {q : FT} {s : Stp}
theorem stpF_st(h0:stE C q.S q.sv=0):stE C (stpF C l now q s).S (stpF C l now q s).sv=0:=stE_step (ws:=(saR C l now q.x q.at' s).map pk1) h0
theorem told_may(h0:stE C q.S q.sv=0):∀r∈rdA (stpF C l now q s).sv (stpF C l now q s).S.n,Yc r=true:=by
 have st:=stpF_st (l:=l) (now:=now) (s:=s) h0;refine rdA_mem (rdA_may (fun i hi=>?_) (fun i hi k hk=>?_) ?_)
 · have:=(Xe st hi).1;have:=(Z9 (Yd st).1 hi).1;omega
 · have sl:=Xe st hi;have ar:=Yf (cr_ar (Yd st).1 hi);have:=Yv (Wo (seU_all _ sl.2 k hk)).2
   omega
 · exact Z0 (clE_zero ((Yd st).2 0 (by omega)))
theorem move_f(B:Nat)(pf:Option Addr)(cf:Nat)(T:FS)(hi:i<2)(ta:Option Addr)(tc:Nat)(h0:stE C q.S q.sv=0)(u:World)(hb:Blk 173 u B (flL C pf l.length cf T now (xkF q (stpF C l now q s) i) (akF q (stpF C l now q s) i)))(hf:Fts u pf l)(hl:l.length≤1000)(hr:Rds u ta (gat rdOf ((rdA (stpF C l now q s).sv (stpF C l now q s).S.n).map pk1)))(hnr:∀g,ta=some (Ad g 0)→g≠B)(hnf:l≠[]→∀g o,pf=some (Ad g o)→g≠B)(hx:-10000000≤q.x i∧q.x i≤10000000)(hpu:-1000≤s.p i∧s.p i≤1000):
 Calls prog 130 #[.pointer (some (Ad B 0)),Vi i,.slice ta (gat rdOf ((rdA (stpF C l now q s).sv (stpF C l now q s).S.n).map pk1)).length tc,Vi (s.p i)] u fun e w'=>e=.returned (.tuple #[])∧Blk 173 w' B (flL C pf l.length cf T now (xkF q (stpF C l now q s) (i+1)) (akF q (stpF C l now q s) (i+1)))∧Oth u w' B:=by
 have st:=stpF_st (l:=l) (now:=now) (s:=s) h0;have hcr:=(Yd h0).1;have ar:=Yf (cr_ar hcr hi);have rg:=Z9 hcr hi;have hm:=told_may (l:=l) (now:=now) (s:=s) h0;have hlen:∀i,i<2→(((stpF C l now q s).sv i).length:Int)=C.a i 4:=fun i hi=>(Xe st hi).1
 have h4:∀i,i<2→((stpF C l now q s).sv i).length≤4:=fun i hi=>by have:=hlen i hi;have:=(Z9 hcr hi).1;omega
 have hp:∀k:Nat,k<(C.a i 4).toNat→plR (C.a i 5) (fnd (64+4*(i:Int)+(k:Int)) 3 (gat rdOf ((rdA (stpF C l now q s).sv (stpF C l now q s).S.n).map pk1))) (ail l now i k true)=plc C l now i k (svAt ((stpF C l now q s).sv i) k):=fun k hk=>by
  rw[told_fnd hm hi h4 (by have:=hlen i hi;omega),plR_plc]
 have hgl:(gat rdOf ((rdA (stpF C l now q s).sv (stpF C l now q s).S.n).map pk1)).length≤1000:=by
  have a:=Uw rdOf ((rdA (stpF C l now q s).sv (stpF C l now q s).S.n).map pk1);have b:=h4 0 (by omega);have c:=h4 1 (by omega);rw[List.length_map,rdA_len] at a
  omega
 have m:=move_any B C pf cf l T now _ _ i hi ta tc _ (s.p i) _ rfl hgl u hb hf hl (by omega) (by omega) hr hnr hnf (fun k=>plR_bd (by omega)) (by unfold xkF;rw[if_neg (by omega)];exact hx) hpu;refine m.mono ?_;rintro e w' ⟨rfl,hb',ho⟩;refine⟨rfl,?_,ho⟩;rw[mvX_plU _ hp] at hb';rw[fl_congr (x':=xkF q (stpF C l now q s) (i+1)) (a':=akF q (stpF C l now q s) (i+1))] at hb'
 · exact hb'
 · intro j hj
   unfold upd xkF
   by_cases e:j=i
   · subst e;rw[if_pos rfl,if_neg (by omega),if_pos (by omega)]
     rfl
   · rw[if_neg e]
     by_cases h1:j<i
     · rw[if_pos h1,if_pos (by omega)]
     · rw[if_neg h1,if_neg (by omega)]
 · intro j hj k hk;rw[mvA_if hp]
   by_cases e:j=i
   · subst e;rw[akF_self,akF_next]
     show _=if k<(C.a j 4).toNat then plc C l now j k (svAt (vS3 C q.S (wsF C l now q s) q.sv j) k) else q.at' j k
     by_cases h1:k<(C.a j 4).toNat
     · rw[if_pos ⟨rfl,h1⟩,if_pos h1];rfl
     · rw[if_neg (fun h=>h1 h.2),if_neg h1]
   · rw[if_neg (fun h=>e h.1),akF_else _ _ e]
end
theorem frame_any(B:Nat)(C:CR)(pf:Option Addr)(cf:Nat)(l:List Ft)(now:Int)(q:FT)(s:Stp)(w:World)(hk:Blk 173 w B (flL C pf l.length cf q.S now q.x q.at'))(hf:Fts w pf l)(hl:l.length≤1000)(hnow:0≤now∧now≤1000)(hs:SA C s)(hx:∀i,i<2→-10000000≤q.x i∧q.x i≤10000000)(ha:∀i,i<2→∀k,k<4→-1000≤q.at' i k∧q.at' i k≤1000)(hg:GV w)(hcr:CrL w C)(hv:SvL w q.S q.sv)(h0:stE C q.S q.sv=0)(hnf:l≠[]→∀g o,pf=some (Ad g o)→g≠B):
 Calls prog 81 #[.pointer (some (Ad B 0)),.agg (stpL s).toArray] w fun e w'=>e=.returned .nilIface∧∃T,SaS T (stpF C l now q s).S∧Blk 173 w' B (flL C pf l.length cf T (now+1) (stpF C l now q s).x (stpF C l now q s).at')∧SvL w' T (stpF C l now q s).sv∧SpN T w.heap.size∧Oth w w' B:=by
 have hc0:=(Yd h0).1
 have hN:∀i,i<2→0≤C.a i 2∧C.a i 2≤1000:=fun i hi=>by have g:=cr_gok hc0 hi;have:=g.n0;have:=g.n1;omega
 have h4:∀i,i<2→2≤C.a i 4∧C.a i 4≤4:=fun i hi=>(Z9 hc0 hi).1;have hz:=hs.z;have hkk:=hs.k
 have h64:(saR C l now q.x q.at' s).length≤64:=by
  have a:=axU_len C l now q.x q.at' s (fun i hi=>(h4 i hi).2) 2 (by omega);have b:=spR_len l now s.v 3
  unfold saR
  rw[List.length_append,List.length_append]
  have:(if s.g then[((40:Int),(3:Int),(3:Int),(1:Int))] else[]).length≤1:=by split<;>simp
  omega
 have Hw:=Za (told_may (l:=l) (now:=now) (s:=s) h0);have Hx:Hid (∀i,i<2→-1000≤s.p i∧s.p i≤1000):=Za (fun i hi=>by have:=hs.p i hi;have:=(Z9 hc0 hi).2;omega);have Hy:=Za hx;have Hz:=Za hnf;have Hq:=Za h0;have HA:=Za (fun u (h:Oth w u B)=>h.fts hnf hf);have HB:=Za hk;have Hr:=Za (show w.heap.size≠B from Nat.ne_of_gt hk.lt);have Hj:=Za hk.lt;obtain⟨now0,now1⟩:=hnow;have HM:=Za (saR_may (C:=C) (l:=l) (now:=now) (x:=q.x) (at':=q.at') (s:=s) (fun i hi=>(h4 i hi).2) ha hkk);have HC:=Za (fun u (h:Bw w u)=>said_any B C pf cf l q.S now q.x q.at' s u (hk.later h) (hf.later h) hl hN h4 hz hx);have HD:=Za (saR_pos C l now q.x q.at' s);have Ha:=Za (Zb w (.cells (stpL s).toArray 78));have HP:=Za (Blk.new w 78 (stpL s));have Hk:=Za (fun u (h:Bw w u)=>(fl_cr C pf l.length cf q.S now q.x q.at')▸(hk.later h).sub 0 32);have Hl:=Za (fun u (h:Bw w u)=>(fl_st C pf l.length cf q.S now q.x q.at')▸(hk.later h).sub 33 30);have HE:=Za (fun u (h:Bw w u) a c (hU:U32s u a ((saR C l now q.x q.at' s).map pk1))=>step_f C q.S q.sv (saR C l now q.x q.at' s) HM.out a c u (hg.later h) (hcr.later h) (hv.later h) hU h64 h0);have Hb:=Za h4;clear hk hf hN h4 hz hx ha hkk hs hnf hc0
 go_enter func81,ntmps81
 go_upto_region 1 with fail;generalize w.alloc (.cells (stpL s).toArray 78)=v0 at *;generalize w.heap.size=QS at HP Hr⊢;have HF:=Za (HP.out.range)
 go_upto_region 4 with(first
  |(refine Lq 78 _ rfl ?_;refine wpList_load_mid rfl 78 (.tmp 3) rfl QS 0 rfl (stpL s) _ HF.out underlying78 rfl (by rw[Ud];rfl) ?_)
  |(go_at_call 129;refine(HC.out _ Ha.out).mono ?_;rintro e v1 ⟨⟨g,c,rfl,hrd⟩,hb⟩;have HG:=Za hrd;replace Ha:=Za (Zc Ha.out hb);replace HP:=Za (HP.out.later hb);clear hb hrd)
  |(go_at_call 113;refine(packAll_ok _ _ _ HD.out (by omega) (fun k hk=>HM.out _ (rat_mem hk)) _ HG.out).mono ?_;rintro e v2 ⟨⟨g2,c2,rfl,hg2,hu⟩,hb⟩;have HU:=Za hu;have HZ:=Za hg2;replace Ha:=Za (Zc Ha.out hb);replace HP:=Za (HP.out.later hb);clear hb hu hg2))
 obtain⟨rs,hrs⟩:∃rs,rs=rdA (stpF C l now q s).sv (stpF C l now q s).S.n:=⟨_,rfl⟩;have HU:=fpkU_map _▸HU.out;have HH:Hid (∀i,i<2→1≤((stpF C l now q s).sv i).length):=Za (fun i hi=>by have e:(stpF C l now q s).sv i=vS3 C q.S (wsF C l now q s) q.sv i:=rfl;rw[e,fv3_len _ hi];have:=(Xe h0 hi).1;have:=Hb.out i hi;omega);have HI:Hid (1≤(rs.map pk1).length):=Za (by rw[List.length_map,hrs,rdA_len];omega);replace Hk:=Za (Hk.out v2 Ha.out);replace Hl:=Za (Hl.out v2 Ha.out)
 have HJ:Hid (∀u,Bw v2 u→Calls prog 16 #[.agg (crL C).toArray,.agg (stL q.S).toArray,.slice (some (Ad g2 0)) (saR C l now q.x q.at' s).length c2] u fun e w'=>(∃T g c,e=.returned (.tuple #[.agg (stL T).toArray,.slice (some (Ad g 0)) rs.length c,.nilIface])∧(T.bk=(stpF C l now q s).S.bk∧T.hd=(stpF C l now q s).S.hd∧T.n=(stpF C l now q s).S.n)∧SvL w' T (stpF C l now q s).sv∧U32s w' (some (Ad g 0)) (rs.map pk1)∧∀i,i<2→∃G,T.sp i=some (Ad G 0)∧v2.heap.size≤G)∧Bw u w'):=Za (fun u h=>by
  subst hrs;refine(HE.out u (Zc Ha.out h) _ _ (HU.later h)).mono ?_;rintro e w' ⟨⟨T,g,c,h1,h2,h3,h4,h5⟩,hb⟩
  exact⟨⟨T,g,c,h1,h2,h3,h4,fun i hi=>(h5 i hi).imp fun G hG=>⟨hG.1,Nat.le_trans h.size hG.2⟩⟩,hb⟩)
 clear HE;have Hm:=Za hrs;have HK:Hid (rs.length≤64):=Za (by rw[hrs,rdA_len];have st:=stpF_st (l:=l) (now:=now) (s:=s) Hq.out;have e0:=(Xe st (i:=0) (by omega)).1;have e1:=(Xe st (i:=1) (by omega)).1;have:=Hb.out 0 (by omega);have:=Hb.out 1 (by omega);omega);clear hrs hv hcr hg h0 h64 HM HC HD;refine Cs [22,23,24,25,26,27,28,29,30,31,21,32,33,34,7] ?_;refine Cp 0 22 [] ?_;refine Cp 1 23 [0] ?_;refine Cp 2 24 [1] ?_;refine Cl (x:=.tmp 24) 3 25 [2] (fun y w hF u hSw=>⟨Zg Hk.out hSw,hF.1⟩) underlying29 Zt ?_;refine Cp 4 26 [] ?_;refine Cp 5 27 [4] ?_;refine Cp 6 28 [5] ?_;refine Cl (x:=.tmp 28) 7 29 [6] (fun y w hF u hSw=>⟨Zg Hl.out hSw,hF.1⟩) underlying41 Yk ?_;refine Cp 8 30 [] ?_;refine Cd 9 31 [3,7,8] (fun v u=>∃T g c,v=.tuple #[.agg (stL T).toArray,.slice (some (Ad g 0)) rs.length c,.nilIface]∧(T.bk=(stpF C l now q s).S.bk∧T.hd=(stpF C l now q s).S.hd∧T.n=(stpF C l now q s).S.n)∧SvL u T (stpF C l now q s).sv∧U32s u (some (Ad g 0)) (rs.map pk1)∧∀i,i<2→∃G,T.sp i=some (Ad G 0)∧v2.heap.size≤G) (fun y w h _=>(HJ.out _ h).mono (by rintro e w' ⟨⟨T,g,c,rfl,h1,h2,h3,h4⟩,hb⟩;exact⟨_,rfl,⟨T,g,c,rfl,h1,h2,h3,h4⟩,hb⟩)) (fun _ _ _ ⟨T,g,c,e,h1,h2,h3,h4⟩ hb=>⟨T,g,c,e,h1,h2.later hb,h3.later hb,h4⟩) ?_;refine Cu (fun y=>y 31) 10 21 [9] ?_ (hy:=fun y w _ u=>by go_simp);refine Cu (fun y=>tg (y 21) 0) 11 32 [10,9] ?_ (hy:=fun y w hF u=>by obtain⟨h10,⟨T,g,c,e,-⟩,-⟩:=hF;simp only[show y 21=_ from h10.trans e];go_simp;rfl);refine Cu (fun y=>tg (y 21) 1) 12 33 [10,9] ?_ (hy:=fun y w hF u=>by obtain⟨h10,⟨T,g,c,e,-⟩,-⟩:=hF;simp only[show y 21=_ from h10.trans e];go_simp;rfl);refine Cu (fun y=>tg (y 21) 2) 13 34 [10,9] ?_ (hy:=fun y w hF u=>by obtain⟨h10,⟨T,g,c,e,-⟩,-⟩:=hF;simp only[show y 21=_ from h10.trans e];go_simp;rfl);refine Ca 14 7 ?_;refine Cn 3 18 [15,16,17] (fun y u1 hB hf=>?_);obtain⟨XA,e,hA⟩:=hf.1;have Hc:Hid (NB _ _ _ XA Qaf):=Za hA;(try simp only[e]);clear e hA
 obtain⟨T,g4,c4,e,hT,hSV,hU4,hG4⟩:=hf.2.2.2.2.2.1;simp only[e,tg];have HL:=Za hB;clear hB hf;have Hh:Hid (Blk 41 u1 XA zSt):=Za Hc.out.1;have Hs:=Za (NB.le Hc.out);clear Hc;refine Ra 15 (fun K hK=>?_);rw[if_pos (by rfl)];refine Yi 41 (.tmp 7) (.tmp 32) rfl XA 0 (stL T).toArray rfl rfl (Hh.out.there0 T) (stL_info T) (stL_one T) rfl ?_;have Hd:=Za (Zr (stL T) 0 u1 HL.out Hs.out);have Hn:=Za (Hh.out.setSt T);have Ht:=(Oth.refl u1 XA).setCells (stL T) 0 u1;have Hi:=Za (Ht.svl (fun i hi g o e=>by obtain⟨G,e2,_⟩:=hG4 i hi;rw[e2] at e;cases e;exact zst_vls Hh.out (by rw[←e2];exact(hSV i hi).2.2) (HH.out i hi)) hSV);have HN:=Za (Ht.u32 (fun g o e=>by cases e;exact zst_u32 Hh.out hU4 HI.out) hU4);refine hK.out _ _ Hd.out (fun _=>?_);clear hK K;refine Tq 16 Hd.out ?_;simp only[Act.put,Ly];refine Tq 17 Hd.out ?_;simp only[Act.put,Ly];refine Dn ?_;go_simp;generalize hU:u1.setCells XA 0 (stL T)=v3 at *;clear hU Ht hSV hU4 Hh HL;refine Ek ?_;have Hf:=Za (Zc Ha.out Hd.out);replace HP:=Za (HP.out.later Hd.out)
 have HQ:Hid (∀u,Bw v3 u→Calls prog 100 #[.slice (some (Ad g4 0)) rs.length c4] u fun e w'=>(∃ta tc,e=.returned (.tuple #[.slice ta (gat rdOf (rs.map pk1)).length tc,Vi (bads rdOf (rs.map pk1)),.nilIface])∧Rds w' ta (gat rdOf (rs.map pk1))∧∀g,ta=some (Ad g 0)→g≠B)∧Bw u w'):=Za (fun u h=>by
  have k:=gather_any (some (Ad g4 0)) c4 (rs.map pk1) (by rw[List.length_map];exact HK.out) u (wds_of (Hm.out▸Hw.out) (HN.out.later h));rw[List.length_map] at k;refine k.mono ?_;rintro e w' ⟨⟨v,rfl,ho⟩,hb⟩;obtain⟨ta,tc,rfl,hr⟩:=ho.rds
  exact⟨⟨ta,tc,rfl,hr,own_ne ho (Nat.lt_of_lt_of_le (Nat.lt_of_lt_of_le Hj.out Hf.out.size) h.size)⟩,hb⟩)
 have HS:Hid (SpN T w.heap.size):=Za (fun i hi=>(hG4 i hi).imp fun G hG=>⟨hG.1,Nat.le_trans Ha.out.size hG.2⟩);have HV:=Za (HS.out.svn Hj.out);have H0:Hid (XA≠B):=Za (by have:=Ha.out.size;have:=Hj.out;have:=Hs.out;omega);have HT:=Za hT;clear Hd Ha hG4 HN HK HU Hw hT Hs Hk Hl HJ HH HI HG HZ HF
 go_upto_region 10 with(go_at_call 100;refine(HQ.out _ (Below.refl _ _)).mono ?_;rintro e v4 ⟨⟨ta,tc,rfl,hr,hne⟩,hb⟩;have HR:=Za hr;have Ho:=Za hne;replace Hf:=Za (Zc Hf.out hb);replace HP:=Za (HP.out.later hb);replace Hn:=Za (Hn.out.later hb);replace Hi:=Za (Hi.out.later hb);clear hb hr hne);have Hg:=Za (HB.out.later Hf.out);have HX:=Za (Hg.out.there (o:=33) (n:=(stL T).toArray.size) (Nat.le_of_ble_eq_true rfl))
 go_upto_region 12 with(first
  |(refine Lq 41 _ rfl ?_;refine wpList_load_mid rfl 41 (.tmp 7) rfl XA 0 rfl (stL T) _ Hn.out.range underlying41 rfl (N3 T) ?_)
  |(refine Sq 41 _ _ rfl ?_;refine wpList_store_mid rfl 41 (.tmp 50) (.tmp 48) rfl B 33 (stL T).toArray rfl rfl HX.out (stL_info T) (stL_one T) ?_))
 have Hu:=Blk.setCells (stL T) 33 v4 _ Hg.out;rw[fl_putSt] at Hu;replace Hg:=Za Hu;have HY:=Za (Oth.setCells (stL T) 33 v4 (Oth.below (B:=B) Hf.out));have Hp:=Oth.setCells (stL T) 33 v4 (Oth.refl v4 B);replace HP:=Za (Hp.blk Hr.out HP.out);replace Hi:=Za (Hp.svl HV.out Hi.out);replace HR:=Za (Hp.rds Ho.out HR.out);have H1:Hid ((.slice ta (gat rdOf (rs.map pk1)).length tc:Value)=.slice ta (gat rdOf ((rdA (stpF C l now q s).sv (stpF C l now q s).S.n).map pk1)).length tc):=Za (by rw[Hm.out]);rw[Hm.out] at HR;clear Hu Hp HX Hn Hf HB HQ H0;generalize World.setCells _ B 33 _=v5 at*
 have H2:Hid (∀i,i<2→∀u,Blk 173 u B (flL C pf l.length cf T now (xkF q (stpF C l now q s) i) (akF q (stpF C l now q s) i))→Oth v5 u B→Calls prog 130 #[.pointer (some (Ad B 0)),Vi i,.slice ta (gat rdOf (rs.map pk1)).length tc,Vi (s.p i)] u fun e w'=>e=.returned (.tuple #[])∧Blk 173 w' B (flL C pf l.length cf T now (xkF q (stpF C l now q s) (i+1)) (akF q (stpF C l now q s) (i+1)))∧Oth u w' B):=Za (fun i hi u hb ho=>by
  rw[Hm.out]
  exact move_f B pf cf T hi ta tc Hq.out u hb (HA.out u (HY.out.trans ho)) hl (ho.rds Ho.out HR.out) Ho.out Hz.out (Hy.out i hi) (Hx.out i hi))
 rw[←xkF_zero q (stpF C l now q s),←akF_zero q (stpF C l now q s)] at Hg;clear H1 HR Hx Hy Hz Hq HA Hj Ho
 go_loopw [51] (fun ix wr=>∃i:Nat,i≤2∧ix=Vi i∧Blk 173 wr B (flL C pf l.length cf T now (xkF q (stpF C l now q s) i) (akF q (stpF C l now q s) i))∧Oth v5 wr B) (fun ix _=>2-(intOf ix).toNat)
 case atStart=>exact⟨0,by omega,rfl,Hg.out,Oth.refl _ _⟩
 case round=>
  clear Hg;obtain⟨i,hi2,rfl,hb,ho⟩:=hrel
  by_cases hi:i<2
  · have i0:(0:Int)≤(i:Int):=by omega
    have i1:(i:Int)<2:=by omega
    have ep:=((ho.blk Hr.out HP.out).cell (stp_p s hi)).1;have hmv:=H2.out i hi wr hb ho;have HO:=Za ho;clear hb ho
    go_wp2_with (go_at_call 130;refine hmv.mono ?_;rintro e v6 ⟨rfl,hb,ho6⟩;have H3:=Za hb;have H4:=Za (HO.out.trans ho6);clear hb ho6 ep hmv);go_roundw
    case rel=>exact⟨i+1,by omega,by go_num,H3.out,H4.out⟩
    case measure=>simp[intOf];omega
  · obtain rfl:i=2:=by omega
    rw[fl_two] at hb;have en:=hb.cell (fl_now _ _ _ _ _ _ _ _);have en1:=en.1;have en2:=en.2;have Hv:=hb.set 63 (Vi (now+1));rw[fl_setNow] at Hv;have H5:=Za Hv;have HO:=Za ho;clear hb ho en Hv;go_wp2_with fail;go_ret;exact⟨rfl,T,HT.out,H5.out,HO.out.set.svl HV.out Hi.out,HS.out,(HY.out.trans HO.out).set⟩
theorem Wv{lo hi:Int}(h0:lo≤x)(h1:x≤hi)(w:World):Calls prog 76 #[Vi x,Vi lo,Vi hi] w (Rt w (.bool true)):=by
 have h:=Wd x lo hi w;rw[Y7 h0 h1] at h;exact h
structure FtOK (C:CR) (f:Ft):Prop where
 a:0≤f.1∧f.1≤300
 k:0≤f.2.1∧f.2.1≤4
 x:0≤f.2.2.1∧f.2.2.1≤2
 u:0≤f.2.2.2.1
 ch:f.2.1≠4→f.2.2.2.1≤2
 su:f.2.1=4→f.2.2.1≤1∧f.2.2.2.1<C.a f.2.2.1.toNat 4
def unI(C:CR)(fk fx:Int):Int:=if fk=4 then C.a fx.toNat 4 else 3
theorem cr_su(C:CR)(hi:i<2):(crL C)[i*15+4]?=some (Vi (C.a i 4)):=by
 rcases Qtw i with rfl|rfl<;>rfl
theorem units_ok(C:CR)(fa fk fx fu fi:Int)(hx:fk=4→(0≤fx∧fx≤1)∧0≤C.a fx.toNat 4)(w:World):Calls prog 77 #[.agg (crL C).toArray,.agg #[Vi fa,Vi fk,Vi fx,Vi fu,Vi fi]] w (Rt w (Vi (unI C fk fx))):=by
 have HK:=Za ((Blk.new w 29 (crL C)).later (Zb (w.alloc (.cells (crL C).toArray 29)) (.cells #[Vi fa,Vi fk,Vi fx,Vi fu,Vi fi] 73)));have HF:Hid (Blk 73 ((w.alloc (.cells (crL C).toArray 29)).alloc (.cells #[Vi fa,Vi fk,Vi fx,Vi fu,Vi fi] 73)) (w.heap.size+1) [Vi fa,Vi fk,Vi fx,Vi fu,Vi fi]):=Za (by have h:=Blk.new (w.alloc (.cells (crL C).toArray 29)) 73 [Vi fa,Vi fk,Vi fx,Vi fu,Vi fi];rw[World.size_alloc] at h;exact h);have Ha:=Za (Zc (Zb w (.cells (crL C).toArray 29)) (Zb (w.alloc (.cells (crL C).toArray 29)) (.cells #[Vi fa,Vi fk,Vi fx,Vi fu,Vi fi] 73)))
 go_enter func77,ntmps77
 go_upto_region 1 with fail;generalize (w.alloc (.cells (crL C).toArray 29)).alloc (.cells #[Vi fa,Vi fk,Vi fx,Vi fu,Vi fi] 73)=v0 at *;have e1:=(HF.out.cell (j:=1) rfl).1;have e2:=(HF.out.cell (j:=2) rfl).1
 by_cases hk:fk=4
 · obtain⟨⟨x0,x1⟩,hc⟩:=hx hk;obtain⟨i,rfl⟩:∃i:Nat,fx=i:=⟨fx.toNat,by omega⟩
   have i0:(0:Int)≤(i:Int):=by omega
   have i1:(i:Int)<2:=by omega
   have hne:¬(i:Int)=2:=by omega
   have ea:=(HK.out.cell (cr_su C (show i<2 by omega))).1;have HU:Hid (unI C fk i=mxL (C.a i 4) 0):=Za (by unfold unI mxL;rw[if_pos hk,Int.toNat_natCast] at *;split<;>omega);have hmx:=fun ts t=>Ns ts t (C.a i 4) 0;subst hk;clear hc hx;go_wp2_with fail;go_ret;exact⟨by rw[HU.out];rfl,Ha.out⟩
 · have HU:Hid (unI C fk fx=3):=Za (if_neg hk);clear hx;go_wp2_with fail;go_ret;exact⟨by rw[HU.out];rfl,Ha.out⟩
theorem Zjg(C:CR)(f:Ft)(hf:FtOK C f)(h4:∀i,i<2→2≤C.a i 4∧C.a i 4≤4)(w:World):Calls prog 27 #[.agg (crL C).toArray,.agg (ftL f).toArray] w (Rt w .nilIface):=by
 obtain⟨fa,fk,fx,fu,fi⟩:=f;have hi1:=Wv hf.a.1 hf.a.2;have hi2:=Wv hf.k.1 hf.k.2;have hi3:=Wv hf.x.1 hf.x.2
 have hub:1≤unI C fk fx∧unI C fk fx≤4∧fu≤unI C fk fx-1:=by
  unfold unI
  split
  · rename_i e
    have:=(hf.su e);have:=h4 fx.toNat (by have:=this.1;dsimp only at this;omega);have:=(hf.su e).2
    dsimp only at this
    omega
  · rename_i e
    have:=hf.ch e
    dsimp only at this
    omega
 have hwr:IntKind.i64.wrap (unI C fk fx-1)=unI C fk fx-1:=by rw[Xo]<;>omega
 have hi4:=Wv (x:=fu) (lo:=0) (hi:=unI C fk fx-1) hf.u hub.2.2;have hun:=units_ok C fa fk fx fu fi (fun e=>by have h1:=(hf.su e).1;have h0:=hf.x.1;dsimp only at h1 h0;have:=h4 fx.toNat (by omega);omega);obtain⟨u0,u1,_⟩:=hub;generalize unI C fk fx=un at *;clear hf h4
 dsimp only at hi1 hi2 hi3 hi4
 change Calls prog 27 #[.agg (crL C).toArray,.agg #[Vi fa,Vi fk,Vi fx,Vi fu,Vi fi]] w _
 have HK:=Za ((Blk.new w 29 (crL C)).later (Zb (w.alloc (.cells (crL C).toArray 29)) (.cells #[Vi fa,Vi fk,Vi fx,Vi fu,Vi fi] 73)));have HF:Hid (Blk 73 ((w.alloc (.cells (crL C).toArray 29)).alloc (.cells #[Vi fa,Vi fk,Vi fx,Vi fu,Vi fi] 73)) (w.heap.size+1) [Vi fa,Vi fk,Vi fx,Vi fu,Vi fi]):=Za (by have h:=Blk.new (w.alloc (.cells (crL C).toArray 29)) 73 [Vi fa,Vi fk,Vi fx,Vi fu,Vi fi];rw[World.size_alloc] at h;exact h);have Ha:=Za (Zc (Zb w (.cells (crL C).toArray 29)) (Zb (w.alloc (.cells (crL C).toArray 29)) (.cells #[Vi fa,Vi fk,Vi fx,Vi fu,Vi fi] 73)))
 go_enter func27,ntmps27
 go_upto_region 1 with fail;generalize (w.alloc (.cells (crL C).toArray 29)).alloc (.cells #[Vi fa,Vi fk,Vi fx,Vi fu,Vi fi] 73)=v0 at *;have e0:=(HF.out.cell (j:=0) rfl).1;have e1:=(HF.out.cell (j:=1) rfl).1;have e2:=(HF.out.cell (j:=2) rfl).1
 go_upto_region 3 with(first
  |((first|go_at_call_of 76 (Vi 300)|go_at_call_of 76 (Value.int .i64 300));refine Sb (hi1 _) fun v1 hb=>?_;replace HF:=Za (HF.out.later hb);replace HK:=Za (HK.out.later hb);replace Ha:=Za (Zc Ha.out hb);have e1:=(HF.out.cell (j:=1) rfl).1;have e2:=(HF.out.cell (j:=2) rfl).1;clear hb)
  |((first|go_at_call_of 76 (Vi 4)|go_at_call_of 76 (Value.int .i64 4));refine Sb (hi2 _) fun v1 hb=>?_;replace HF:=Za (HF.out.later hb);replace HK:=Za (HK.out.later hb);replace Ha:=Za (Zc Ha.out hb);have e2:=(HF.out.cell (j:=2) rfl).1;clear hb)
  |((first|go_at_call_of 76 (Vi 2)|go_at_call_of 76 (Value.int .i64 2));refine Sb (hi3 _) fun v1 hb=>?_;replace HF:=Za (HF.out.later hb);replace HK:=Za (HK.out.later hb);replace Ha:=Za (Zc Ha.out hb);clear hb))
 rename World=>v3;have e3:=(HF.out.cell (j:=3) rfl).1;have Hc:=Za HK.out.range;have Hd:=Za HF.out.range;refine Cs [22,23,24,25,26,27,28,29] ?_;refine Cp 0 22 [] ?_;refine Cq (fun _ h=>cell_later h e3) 1 23 [0] ?_;refine Cl (x:=.tmp 2) 2 24 [] (fun y w _ u hSw=>⟨Zg Hc.out hSw,rfl⟩) underlying29 Zt ?_;refine Cl (x:=.tmp 3) 3 25 [] (fun y w _ u hSw=>⟨Zg Hd.out hSw,rfl⟩) underlying73 infoF5 ?_;refine Cc 4 26 [2,3] (fun y w h _=>hun _) ?_;refine Cp 5 27 [4] ?_;refine Cc 6 28 [1,5] (fun y w h _=>hi4 _) ?_;refine Cp 7 29 [6] ?_;refine Ce (fun y u1 hB hf=>?_);have Hb:=Za hB;clear hB hf;go_simp;have hB:=Hb.out;clear Hb;generalize u1=v2 at hB⊢;refine Ek ?_;go_wp2_with fail;go_ret;exact⟨rfl,Zc Ha.out hB⟩
theorem isPush_ok(C:CR)(i:Nat)(n:Int)(h:-C.a i 3≤n∧n≤C.a i 3)(h3:0≤C.a i 3∧C.a i 3≤1000)(w:World):Calls prog 78 #[.agg (axL C i).toArray,Vi n] w (Rt w (.bool true)):=by
 have hi:=Wv h.1 h.2;obtain⟨p0,p1⟩:=h3;have HA:=Za (Blk.new w 26 (axL C i));have Ha:=Za (Zb w (.cells (axL C i).toArray 26));clear h
 go_enter func78,ntmps78
 go_upto_region 1 with fail;generalize w.alloc (.cells (axL C i).toArray 26)=v0 at *;generalize w.heap.size=QA at HA⊢;have e3:=(HA.out.cell (j:=3) rfl).1
 go_wp2_with (go_at_call 76;refine Sb (hi _) fun v1 hb=>?_;replace Ha:=Za (Zc Ha.out hb);clear hb);go_ret;exact⟨rfl,Ha.out⟩
theorem checkStep_ok(C:CR)(s:Stp)(hs:SA C s)(h3:∀i,i<2→0≤C.a i 3∧C.a i 3≤1000)(w:World):Calls prog 29 #[.agg (crL C).toArray,.agg (stpL s).toArray] w (Rt w .nilIface):=by
 have Hg:=Za (fun i (hi:i<2)=>Wv (hs.k i hi).1 (hs.k i hi).2);have Hh:=Za (fun i (hi:i<2)=>isPush_ok C i (s.p i) (hs.p i hi) (h3 i hi));have Hi:=Za (fun i (hi:i<2)=>Wv (hs.z i hi).1 (hs.z i hi).2);have hi4:=Wv hs.v.1 hs.v.2;clear hs h3;have HK:=Za ((Blk.new w 29 (crL C)).later (Zb (w.alloc (.cells (crL C).toArray 29)) (.cells #[Vi (s.k 0),Vi (s.k 1),Vi (s.p 0),Vi (s.p 1),Vi (s.z 0),Vi (s.z 1),Vi s.v,.bool s.g] 78)));have HF:Hid (Blk 78 ((w.alloc (.cells (crL C).toArray 29)).alloc (.cells #[Vi (s.k 0),Vi (s.k 1),Vi (s.p 0),Vi (s.p 1),Vi (s.z 0),Vi (s.z 1),Vi s.v,.bool s.g] 78)) (w.heap.size+1) (stpL s)):=Za (by have h:=Blk.new (w.alloc (.cells (crL C).toArray 29)) 78 (stpL s);rw[World.size_alloc] at h;exact h);have Hc:=Za (Zc (Zb w (.cells (crL C).toArray 29)) (Zb (w.alloc (.cells (crL C).toArray 29)) (.cells #[Vi (s.k 0),Vi (s.k 1),Vi (s.p 0),Vi (s.p 1),Vi (s.z 0),Vi (s.z 1),Vi s.v,.bool s.g] 78)));have hstp:(stpL s).toArray=#[Vi (s.k 0),Vi (s.k 1),Vi (s.p 0),Vi (s.p 1),Vi (s.z 0),Vi (s.z 1),Vi s.v,.bool s.g]:=rfl;rw[hstp];clear hstp
 go_enter func29,ntmps29
 go_upto_region 1 with fail;generalize (w.alloc (.cells (crL C).toArray 29)).alloc (.cells #[Vi (s.k 0),Vi (s.k 1),Vi (s.p 0),Vi (s.p 1),Vi (s.z 0),Vi (s.z 1),Vi s.v,.bool s.g] 78)=v0 at *;generalize w.heap.size+1=QS at HF⊢;generalize hQK:w.heap.size=QK at HK⊢;clear hQK;have Ha:=Za (HK.out.sub 0 30);rw[cr_axes] at Ha
 go_upto_region 2 with(refine Lm 27 (.tmp 7) rfl QK 0 (axL C 0++axL C 1) Ha.out underlying27 Ub ?_);clear Ha HK
 go_loopw [9] (fun ix wr=>∃i:Nat,i≤2∧ix=Vi i∧Blk 78 wr QS (stpL s)∧Bw w wr) (fun ix _=>2-(intOf ix).toNat)
 case atStart=>exact⟨0,by omega,rfl,HF.out,Hc.out⟩
 case round=>
  clear HF Hc;obtain⟨i,hi2,rfl,hf,hbw⟩:=hrel
  by_cases hi:i<2
  · have hidx:=axidx_i C hi
    have i0:(0:Int)≤(i:Int):=by omega
    have i1:(i:Int)<2:=by omega
    have hi1:=Hg.out i hi;have hi2':=Hh.out i hi;have hi3:=Hi.out i hi;have HF:=Za (hf.later (Zb wr (.cells (axL C i).toArray 26)));have Hb:=Za (Zc hbw (Zb wr (.cells (axL C i).toArray 26)));have Hd:Hid (Blk 26 (wr.alloc (.cells (axL C i).toArray 26)) wr.heap.size (axL C i)):=Za (Blk.new wr _ _);clear hf hbw
    go_upto_region 4 with(refine Sq 26 _ _ rfl ?_;refine Xy (c':=(axL C i).toArray) (.tmp 6) (.tmp 12) rfl rfl rfl rfl rfl rfl (Zn _ rfl) ?_);clear hidx;generalize wr.alloc (.cells (axL C i).toArray 26)=v1 at *;generalize wr.heap.size=QA at Hd⊢;have xk:=(HF.out.cell (stp_k s hi)).1;have xp:=(HF.out.cell (stp_p s hi)).1;have xz:=(HF.out.cell (stp_z s hi)).1;refine Cs [13,14,15,16,17,18,19,20,21,22,23,24,25,26,27,28,29,30,31,32,33,34,35] ?_;refine Cp 0 13 [] ?_;refine Cp 1 14 [] ?_;refine Cp 2 15 [1,0] ?_;refine Cq (fun _ h=>cell_later h xk) 3 16 [2] ?_;refine Cc 4 17 [3] (fun y w h _=>hi1 _) ?_;refine Cp 5 18 [4] ?_;refine Cp 6 19 [5] ?_;refine Cl (x:=.tmp 6) 7 20 [6] (fun y w _ u hSw=>⟨Zg Hd.out.range hSw,rfl⟩) underlying26 Zs ?_ (hw:=fun y w hF=>Zf (congrArg some hF.1));refine Cp 8 21 [6] ?_ (hw:=fun y w hF=>Zf (congrArg some hF.1));refine Cp 9 22 [6] ?_ (hw:=fun y w hF=>Zf (congrArg some hF.1));refine Cp 10 23 [9,8,6] ?_ (hw:=fun y w hF=>Zf (congrArg some hF.2.2.1));refine Cq (fun _ h=>cell_later h xp) 11 24 [10,6] ?_ (hw:=fun y w hF=>Zf (congrArg some hF.2.1));refine Cc 12 25 [7,11,6] (fun y w h _=>hi2' _) ?_ (hw:=fun y w hF=>Zf (congrArg some hF.2.2.1));refine Cp 13 26 [12,6] ?_ (hw:=fun y w hF=>Zf (congrArg some hF.2.1));refine Cp 14 27 [6,13] ?_;refine Cp 15 28 [14] ?_;refine Cp 16 29 [15] ?_ (hw:=fun y w hF=>Zf (congrArg some hF.1));refine Cp 17 30 [15] ?_ (hw:=fun y w hF=>Zf (congrArg some hF.1));refine Cp 18 31 [17,16,15] ?_ (hw:=fun y w hF=>Zf (congrArg some hF.2.2.1));refine Cq (fun _ h=>cell_later h xz) 19 32 [18,15] ?_ (hw:=fun y w hF=>Zf (congrArg some hF.2.1));refine Cc 20 33 [19,15] (fun y w h _=>hi3 _) ?_ (hw:=fun y w hF=>Zf (congrArg some hF.2.1));refine Cp 21 34 [20,15] ?_ (hw:=fun y w hF=>Zf (congrArg some hF.2.1));refine Cp 22 35 [15,21] ?_;refine Ce (fun y u1 hB hf=>?_);have Hf:=Za hB;clear hB hf;go_simp;have hB:=Hf.out;clear Hf;generalize u1=v2 at hB⊢;refine Ek ?_;go_wp2_with fail;go_roundw
    case rel=>exact⟨i+1,by omega,by go_num,HF.out.later hB,Zc Hb.out hB⟩
    case measure=>simp[intOf];omega
  · obtain rfl:i=2:=by omega
    have ev:=(hf.cell (j:=6) rfl).1;have Hb:=Za hbw;clear hf hbw
    go_wp2_with (go_at_call 76;refine Sb (hi4 _) fun v1 hb=>?_;replace Hb:=Za (Zc Hb.out hb);clear hb);go_ret;exact⟨rfl,Hb.out⟩
end Go.Proofs.YtnfdfiholcelaaaGreatDoor
