
import Derived.Test.YtnfdfiholcelaaaGreatDoorJp34
set_option maxRecDepth 100000
set_option maxHeartbeats 20000000
namespace Go.Proofs.YtnfdfiholcelaaaGreatDoor
open Go.RowKit Plain Tryz
variable {B QH QK QR QZ cap g n:Nat}{C R S T:Int}{L:List Sv}{ak h1 rc:List Value}{e:TypeId}{u u' w:World}
theorem keepR4(hb:Bw u u')(h:(Kc u w.heap.size 0 (Vi T)∧Kc u w.heap.size 1 (Vi R)∧Kc u w.heap.size 2 (Vi S)∧Kc u w.heap.size 3 (Vi C))∧Bw w u):(Kc u' w.heap.size 0 (Vi T)∧Kc u' w.heap.size 1 (Vi R)∧Kc u' w.heap.size 2 (Vi S)∧Kc u' w.heap.size 3 (Vi C))∧Bw w u':=⟨B4.later h.1 hb,Zc h.2 hb⟩
theorem skeepK{w3:World}{bl ol k cv:Nat}{ao:Option Addr}{q:List Value}{i b:Int}{o:Bool}(hb:Bw u u')(h:(Kc u w.heap.size 0 (Vi T)∧Kc u w.heap.size 1 (Vi R)∧Kc u w.heap.size 2 (Vi S)∧Kc u w.heap.size 3 (Vi C))∧(Kc u bl (ol+k*3) (Vi i)∧Kc u bl (ol+k*3+1) (Vi b)∧Kc u bl (ol+k*3+2) (.bool o))∧Bw w3 u∧u.ownsRow w3.heap.size 3 1 (.slice ao k cv) k q):(Kc u' w.heap.size 0 (Vi T)∧Kc u' w.heap.size 1 (Vi R)∧Kc u' w.heap.size 2 (Vi S)∧Kc u' w.heap.size 3 (Vi C))∧(Kc u' bl (ol+k*3) (Vi i)∧Kc u' bl (ol+k*3+1) (Vi b)∧Kc u' bl (ol+k*3+2) (.bool o))∧Bw w3 u'∧u'.ownsRow w3.heap.size 3 1 (.slice ao k cv) k q:=
 ⟨B4.later h.1 hb,⟨cell_later hb h.2.1.1,cell_later hb h.2.1.2.1,cell_later hb h.2.1.2.2⟩,Zc h.2.2.1 hb,Y3 h.2.2.2 hb⟩
theorem ils_of_owns{a:Option Addr}{zs:List Int}(hn:n=zs.length)(h:w.ownsRow B 3 1 (.slice a n cap) n (zs.map (Value.int .i64))):ILs w a zs:=by
 subst hn
 by_cases h0:zs.length=0
 · exact .inl (List.length_eq_zero_iff.mp h0)
 · right
   obtain⟨g,c,hv,hb,hg⟩:=h.form (by omega);simp only[Value.slice.injEq] at hv;obtain⟨rfl,_,rfl⟩:=hv;refine⟨g,0,rfl,fun k hk=>?_⟩
   show World.cell? _ _=_
   rw[Nat.zero_add,h.cellAt k (by omega),List.getElem?_map,List.getElem?_eq_getElem hk,List.getD_eq_getElem?_getD,List.getElem?_eq_getElem hk]
   rfl
theorem refSpread_any(T R S C sum v:Int)(l:List Sv)(a:Option Addr)(ca:Nat)(hok:AllOk T R S C l)(h4:l.length≤4)(hv:IsLev T R l (Ze sum (tot T R l (-T)) (tot T R l T)) v)(w:World)(hw:VLs w a l):
 Calls prog 98 #[.agg #[Vi T,Vi R,Vi S,Vi C],.slice a l.length ca,Vi sum] w fun e w'=>(∃x cap,e=.returned (.slice x l.length cap)∧ILs w' x (dlU T R l v (Ze sum (tot T R l (-T)) (tot T R l T)-tot T R l v) l.length))∧Bw w w':=by
 obtain⟨i0,hi,hz0,hz1,hz2⟩:=info_parts infoInt;have HR:=Za (RB.new w T R S C);have HV:=Za hw;have Ha:=Za hok;have ⟨t0,t1⟩:=(Yf hok.1).1;have b1:=tot_bd hok (by omega) (-T);have b2:=tot_bd hok (by omega) T;have HM:=Za (Um T R l (show -T≤T by omega));obtain⟨sm,HSE⟩:∃sm,Hid (Ze sum (tot T R l (-T)) (tot T R l T)=sm):=⟨_,rfl⟩;have hcl:=Yr sum (tot T R l (-T)) (tot T R l T) HM.out;have bs:=Y2 (v:=sum) HM.out;rw[HSE.out] at hv hcl bs;have Hb:=Za hv;have bv:=And.intro hv.1 hv.2.1;have Hd:=Za bs.1;have htl:=fun v u hu=>total_any T R S C l v a ca hok (by omega) u hu;have htA:∀u,((Kc u w.heap.size 0 (Vi T)∧Kc u w.heap.size 1 (Vi R)∧Kc u w.heap.size 2 (Vi S)∧Kc u w.heap.size 3 (Vi C))∧Bw w u)→Calls prog 146 #[.agg #[Vi T,Vi R,Vi S,Vi C],.slice a l.length ca,Vi (-T)] u (Rt u (Vi (tot T R l (-T)))):=fun u hu=>htl _ u (HV.out.later hu.2);have htB:∀u,((Kc u w.heap.size 0 (Vi T)∧Kc u w.heap.size 1 (Vi R)∧Kc u w.heap.size 2 (Vi S)∧Kc u w.heap.size 3 (Vi C))∧Bw w u)→Calls prog 146 #[.agg #[Vi T,Vi R,Vi S,Vi C],.slice a l.length ca,Vi T] u (Rt u (Vi (tot T R l T))):=fun u hu=>htl _ u (HV.out.later hu.2);have v1:=Wr (-T)
 have hlen:(l.length:Int)≤4:=by omega
 clear hw hok hv;obtain⟨s,HS0⟩:∃s,Hid (sm-tot T R l v=s):=⟨_,rfl⟩;rw[HSE.out,HS0.out]
 go_enter func98,ntmps98
 go_upto_region 1 with fail;have S0:((w.alloc (.cells #[Vi T,Vi R,Vi S,Vi C] 113)).cell? (Ad w.heap.size 0)=some (Vi T)∧(w.alloc (.cells #[Vi T,Vi R,Vi S,Vi C] 113)).cell? (Ad w.heap.size 1)=some (Vi R)∧(w.alloc (.cells #[Vi T,Vi R,Vi S,Vi C] 113)).cell? (Ad w.heap.size 2)=some (Vi S)∧(w.alloc (.cells #[Vi T,Vi R,Vi S,Vi C] 113)).cell? (Ad w.heap.size 3)=some (Vi C))∧Bw w (w.alloc (.cells #[Vi T,Vi R,Vi S,Vi C] 113)):=⟨HR.out.1,HR.out.2⟩;generalize (w.alloc (.cells #[Vi T,Vi R,Vi S,Vi C] 113))=w0 at *;have Z:=Za S0
 go_cut [2] (fun c u=>c=Vi sm∧((Kc u w.heap.size 0 (Vi T)∧Kc u w.heap.size 1 (Vi R)∧Kc u w.heap.size 2 (Vi S)∧Kc u w.heap.size 3 (Vi C))∧Bw w u))
 case first=>
  generalize tot T R l (-T)=tA at *;generalize tot T R l T=tB at*
  go_region_held3 (fun u=>(Kc u w.heap.size 0 (Vi T)∧Kc u w.heap.size 1 (Vi R)∧Kc u w.heap.size 2 (Vi S)∧Kc u w.heap.size 3 (Vi C))∧Bw w u)
   (first
    |(with_reducible assumption)
    |(with_reducible apply keepR4;with_reducible assumption;with_reducible assumption)
    |(refine keepR4 ?_ Z.out;exact(Below.refl _ _).drew))
   (first
    |((first|go_at_call_of 146 (Vi (-T))|go_at_call_of 146 (Value.int .i64 (-T)));refine Sb (htA _ (by with_reducible assumption)) fun w' hb=>?_)
    |(go_at_call 146;refine Sb (htB _ (by with_reducible assumption)) fun w' hb=>?_)
    |(go_at_call 94;refine(hcl _).mono ?_;rintro e w' ⟨rfl,rfl⟩))
  all_goals
   rename_i hH
   go_wp2_with fail
   go_meet
   (case rel=>exact⟨rfl,hH⟩)
 case rest=>
  obtain⟨rfl,hH⟩:=hcut;rename World=>wb;clear S0 Z HR htA htB;have HR:=Za (show RB w wb T R S C from hH);obtain⟨q0,q1,q2,q3⟩:=hH.1;clear hH;go_wp2
  go_loopw [7] (fun x wr=>∃lv:Int,x=Vi lv∧-T≤lv∧lv≤T∧(lv<T→sm<tot T R l (lv+1))∧RB w wr T R S C) (fun x _=>(intOf x+T).toNat)
  case atStart=>exact⟨T,rfl,by omega,by omega,fun h=>by omega,HR.out⟩
  case round=>
   clear HR q0 q1 q2 q3;obtain⟨lv,rfl,l0,l1,hup,hR⟩:=hrel;have HU:=Za hup;have HR:=Za hR;obtain⟨q0,q1,q2,q3⟩:=hR.1;have htl':=htl lv;clear hup hR;obtain⟨tt,HTT⟩:∃tt,Hid (tot T R l lv=tt):=⟨_,rfl⟩;rw[HTT.out] at htl'
   by_cases hgo:-T<lv∧sm<tt
   · obtain⟨g1,g2⟩:=hgo
     go_wp2_with (go_at_call 146;refine Sb (htl' _ (HV.out.later HR.out.2)) fun w1 hb1=>?_;have HR:=Za (HR.out.later hb1);clear hb1);go_roundw
     case rel=>exact⟨lv-1,rfl,by omega,by omega,fun _=>by rw[show lv-1+1=lv by omega,HTT.out];exact g2,HR.out⟩
     case measure=>simp[intOf];omega
   · have HL:Hid (IsLev T R l sm lv):=by
      refine⟨l0,l1,?_,HU.out⟩
      by_cases hh:-T<lv
      · have:¬sm<tt:=fun h=>hgo ⟨hh,h⟩;rw[HTT.out];omega
      · rw[show lv=-T by omega];exact Hd.out
     have ev:=HL.out.unique Hb.out;subst ev;have htb:=tot_bd Ha.out (by omega) lv;have htle:tot T R l lv≤sm:=HL.out.2.2.1
     have s0:0≤s∧s≤40000:=by have:=HS0.out;omega
     rw[HTT.out] at htb htle HS0
     have hg2:(-T<lv∧¬sm<tt)∨¬-T<lv:=by
      by_cases hh:-T<lv
      · exact .inl ⟨hh,fun h=>hgo ⟨hh,h⟩⟩
      · exact .inr hh
     clear hgo Hb HL HU
     rcases hg2 with⟨g1,g2⟩|g1
     all_goals
      go_wp2_with (go_at_call 146;refine Sb (htl' _ (HV.out.later HR.out.2)) fun w1 hb1=>?_;have HR:=Za (HR.out.later hb1);obtain⟨q0,q1,q2,q3⟩:=HR.out.1;clear hb1);rename World=>w3;clear g1;clear q0 q1 q2 q3 htl' htl;rw[HS0.out]
      go_loopw [8,9,10] (fun x vv ix wr=>∃(k:Nat) (ao:Option Addr) (cv:Nat),k≤l.length∧ix=Vi k∧x=Vi (lfU T R l lv s k)∧vv=.slice ao k cv∧wr.ownsRow w3.heap.size 3 1 vv k ((dlU T R l lv s k).map (Value.int .i64))∧Bw w3 wr) (fun _ _ ix _=>l.length-(intOf ix).toNat)
      case atStart=>exact⟨0,none,0,Nat.zero_le _,rfl,rfl,rfl,World.ownsRow_nil _ _ _ _,Below.refl _ _⟩
      case round=>
       obtain⟨k,ao,cv,hk,rfl,rfl,rfl,hown,hnx⟩:=hrel;have HN:=Za hnx
       by_cases hlt:k<l.length
       · obtain⟨bl,ol,rfl,d0,d1,d2⟩:=(HV.out.later (RB.later HR.out hnx).2).at hlt;have HQ:=(RB.later HR.out hnx).1;have hlb:=lfU_bd T R l lv s k;have htb1:=tk_bd Ha.out hlt lv;have htb2:=tk_bd Ha.out hlt (lv+1);have HS:=Za (show lfU T R l lv s (k+1)=if 0<lfU T R l lv s k∧tk T R (svAt l k) lv<tk T R (svAt l k) (lv+1) then lfU T R l lv s k-1 else lfU T R l lv s k from rfl);have HI:=Za (show dlI T R l lv s k=if 0<lfU T R l lv s k∧tk T R (svAt l k) lv<tk T R (svAt l k) (lv+1) then tk T R (svAt l k) lv+1 else tk T R (svAt l k) lv from rfl);have Hc:=Za (show dlU T R l lv s (k+1)=dlU T R l lv s k++[dlI T R l lv s k] from rfl);have h1:=taken_any T R S C (svAt l k).1 (svAt l k).2.1 (svAt l k).2.2 lv Ha.out.1 (Ha.out.2 k hlt);have h2:=taken_any T R S C (svAt l k).1 (svAt l k).2.1 (svAt l k).2.2 (lv+1) Ha.out.1 (Ha.out.2 k hlt);rw[show tk T R ((svAt l k).1,(svAt l k).2.1,(svAt l k).2.2) lv=tk T R (svAt l k) lv from rfl] at h1;rw[show tk T R ((svAt l k).1,(svAt l k).2.1,(svAt l k).2.2) (lv+1)=tk T R (svAt l k) (lv+1) from rfl] at h2
         have j0:(0:Int)≤(k:Int):=by omega
         have j1:(k:Int)<(l.length:Int):=by omega
         have w1':IntKind.i64.wrap (lv+1)=lv+1:=Xo (by omega) (by omega);generalize lfU T R l lv s k=x at *;generalize tk T R (svAt l k) lv=t at *;generalize tk T R (svAt l k) (lv+1)=t2 at *;generalize (svAt l k).1=i at *;generalize (svAt l k).2.1=b at *;generalize (svAt l k).2.2=o at *;obtain⟨q,HQE⟩:∃q,Hid ((dlU T R l lv s k).map (Value.int .i64)=q):=⟨_,rfl⟩;rw[HQE.out] at hown;have S0:(Kc wr w.heap.size 0 (Vi T)∧Kc wr w.heap.size 1 (Vi R)∧Kc wr w.heap.size 2 (Vi S)∧Kc wr w.heap.size 3 (Vi C))∧(Kc wr bl (ol+k*3) (Vi i)∧Kc wr bl (ol+k*3+1) (Vi b)∧Kc wr bl (ol+k*3+2) (.bool o))∧Bw w3 wr∧wr.ownsRow w3.heap.size 3 1 (.slice ao k cv) k q:=⟨HQ,⟨d0,d1,d2⟩,hnx,hown⟩;have Z:=Za S0;clear hnx hown d0 d1 d2 HQ HN
         go_upto_region 10 with fail
         go_cut [11] (fun y u=>y=Vi t∧((Kc u w.heap.size 0 (Vi T)∧Kc u w.heap.size 1 (Vi R)∧Kc u w.heap.size 2 (Vi S)∧Kc u w.heap.size 3 (Vi C))∧(Kc u bl (ol+k*3) (Vi i)∧Kc u bl (ol+k*3+1) (Vi b)∧Kc u bl (ol+k*3+2) (.bool o))∧Bw w3 u∧u.ownsRow w3.heap.size 3 1 (.slice ao k cv) k q))
         case first=>
          go_region_held3 (fun u=>(Kc u w.heap.size 0 (Vi T)∧Kc u w.heap.size 1 (Vi R)∧Kc u w.heap.size 2 (Vi S)∧Kc u w.heap.size 3 (Vi C))∧(Kc u bl (ol+k*3) (Vi i)∧Kc u bl (ol+k*3+1) (Vi b)∧Kc u bl (ol+k*3+2) (.bool o))∧Bw w3 u∧u.ownsRow w3.heap.size 3 1 (.slice ao k cv) k q)
           (first
            |(with_reducible assumption)
            |(with_reducible apply skeepK;with_reducible assumption;with_reducible assumption)
            |(refine skeepK ?_ Z.out;exact(Below.refl _ _).drew))
           (first
            |(go_at_call 147;refine Sb (h1 _) fun w' hb=>?_))
          all_goals
           rename_i hH
           go_wp2_with fail
           go_meet
           (case rel=>exact⟨rfl,hH⟩)
         case rest=>
          obtain⟨rfl,hH⟩:=hcut;rename World=>we;clear Z S0;have S0:=hH;have Z:=Za hH;clear hH
          go_upto_region 11 with fail
          go_cut [74] (fun c u=>c=.bool (decide (0<x)&&decide (t<t2))∧((Kc u w.heap.size 0 (Vi T)∧Kc u w.heap.size 1 (Vi R)∧Kc u w.heap.size 2 (Vi S)∧Kc u w.heap.size 3 (Vi C))∧(Kc u bl (ol+k*3) (Vi i)∧Kc u bl (ol+k*3+1) (Vi b)∧Kc u bl (ol+k*3+2) (.bool o))∧Bw w3 u∧u.ownsRow w3.heap.size 3 1 (.slice ao k cv) k q))
          case first=>
           by_cases hp:0<x
           · skip
             go_region_held3 (fun u=>(Kc u w.heap.size 0 (Vi T)∧Kc u w.heap.size 1 (Vi R)∧Kc u w.heap.size 2 (Vi S)∧Kc u w.heap.size 3 (Vi C))∧(Kc u bl (ol+k*3) (Vi i)∧Kc u bl (ol+k*3+1) (Vi b)∧Kc u bl (ol+k*3+2) (.bool o))∧Bw w3 u∧u.ownsRow w3.heap.size 3 1 (.slice ao k cv) k q)
              (first
               |(with_reducible assumption)
               |(with_reducible apply skeepK;with_reducible assumption;with_reducible assumption)
               |(refine skeepK ?_ Z.out;exact(Below.refl _ _).drew))
              (first
               |(go_at_call 147;refine Sb (h2 _) fun w' hb=>?_))
             all_goals
              rename_i hH
              go_wp2_with fail
              go_meet
              (case rel=>exact⟨by rw[decide_eq_true hp];simp,hH⟩)
           · skip
             have hp':decide (0<x)=false:=by simpa using hp
             have Hf:=Za hp';go_quiet (fail);go_wp2
             go_meet
             (case rel=>exact⟨by rw[Hf.out];rfl,skeepK (below_drewN (Below.refl _ _) _) Z.out⟩)
          case rest=>
           obtain⟨rfl,hH⟩:=hcut;rename World=>wf;clear Z S0;have Z:=Za hH;clear hH
           go_upto_if 74 with fail
           go_cut [8,11] (fun x' y' u=>x'=Vi (lfU T R l lv s (k+1))∧y'=Vi (dlI T R l lv s k)∧((Kc u w.heap.size 0 (Vi T)∧Kc u w.heap.size 1 (Vi R)∧Kc u w.heap.size 2 (Vi S)∧Kc u w.heap.size 3 (Vi C))∧(Kc u bl (ol+k*3) (Vi i)∧Kc u bl (ol+k*3+1) (Vi b)∧Kc u bl (ol+k*3+2) (.bool o))∧Bw w3 u∧u.ownsRow w3.heap.size 3 1 (.slice ao k cv) k q))
           case first=>
            by_cases hp:0<x∧t<t2
            · rw[if_pos hp] at HS HI;rw[decide_eq_true hp.1,decide_eq_true hp.2];go_wp2
              go_meet
              (case rel=>exact⟨by rw[HS.out],by rw[HI.out],Z.out⟩)
            · rw[if_neg hp] at HS HI;rw[show(decide (0<x)&&decide (t<t2))=false by simpa using hp];go_wp2
              go_meet
              (case rel=>exact⟨by rw[HS.out],by rw[HI.out],Z.out⟩)
           case rest=>
            obtain⟨rfl,rfl,hH⟩:=hcut;rename World=>wd;clear Z HS HI;have HO:=Za hH.2.2.2;have HN:=Za hH.2.2.1;have LS:=hH.2.2.1.size;clear hH;obtain⟨y,HYE⟩:∃y,Hid (dlI T R l lv s k=y):=⟨_,rfl⟩;rw[HYE.out] at Hc⊢
            go_wp2_with (at_builtin;refine wpList_append_lies _ rfl _ _ 22 rfl w3.heap.size 3 i0 (Vi 0) 1 8 underlying22 hi hz0 hz1 hz2 rfl (by decide) _ _ _ rfl (HO.out.alloc _) ⟨wd.heap.size,0,none⟩ 1 1 [Vi y] rfl rfl (f1new wd _ _) (fun x hx=>by simp at hx;subst hx;rfl) (by omega) (by unfold maxLen;omega) (by omega) (by simp;omega) _ rfl ?_;intro g cap w4 hown' hgrow hat hlt3);go_roundw
            case rel=>
             refine⟨k+1,some (Ad g 0),cap,by omega,by go_num,rfl,rfl,?_,?_⟩
             · rw[Hc.out,List.map_append,HQE.out];exact hown'
             · exact(HN.out.alloc LS _).grown hgrow (by simp;omega) (fun q hq=>(HO.out.lt q hq).1)
            case measure=>simp[intOf];omega
       · have e:k=l.length:=by omega
         have HL:=Za (ils_of_owns (by rw[Xc]) hown);subst e;clear hown hnx;go_wp2;go_ret;exact⟨⟨_,_,rfl,HL.out⟩,Zc HR.out.2 HN.out⟩
theorem infoG6:(prog.info? 99).map (·.size)=some 6:=by kernel_rfl
theorem infoR7:(prog.info? 107).map (·.size)=some 7:=by kernel_rfl
theorem svL_snoc:∀(L:List Sv) (s:Sv),svL (L++[s])=svL L++[Vi s.1,Vi s.2.1,.bool s.2.2]
 |[],_=>rfl
 |x::r,s=>by simp only[List.cons_append,svL,svL_snoc r s]
theorem vls_of_row(hn:n=L.length)(h:w.ownsRow B e 3 (.slice (some (Ad g 0)) n cap) n (svL L)):VLs w (some (Ad g 0)) L:=by
 subst hn;refine .inr ⟨g,0,rfl,fun k hk=>?_⟩;have f0:=Nz L hk (r:=0) (by omega);have f1:=Nz L hk (r:=1) (by omega);have f2:=Nz L hk (r:=2) (by omega);rw[Nat.zero_add];exact⟨(h.cellAt (k*3) (by omega)).trans f0,(h.cellAt (k*3+1) (by omega)).trans f1,(h.cellAt (k*3+2) (by omega)).trans f2⟩
def moU(L:List Sv)(p:List Int):Nat→List Sv
 |0=>[]
 |k+1=>moU L p k++[(p.getD k 0,(svAt L k).2)]
theorem moU_len(L:List Sv)(p:List Int):∀k,(moU L p k).length=k
 |0=>rfl
 |k+1=>by rw[moU,List.length_append,moU_len L p k];rfl
theorem moU_sik(L:List Sv)(p:List Int):moU L p L.length=sik L p L.length:=by
 have key:∀k,moU L p k=(List.range k).map fun j=>(p.getD j 0,(svAt L j).2):=by
  intro k
  induction k with
  |zero=>rfl
  |succ k ih=>rw[moU,ih,List.range_succ,List.map_append];rfl
 rw[key]
 unfold sik
 apply List.map_congr_left;intro j hj;rw[if_pos (by simpa using hj)]
section
variable {K : Nat} {wz : World} {C : CR} {S : FS} {l : List Rd} {sv : Nat → List Sv} {i : Nat}
theorem MvOK.gok(h:MvOK K wz C S l sv i):GOK (C.a i 0) (C.a i 1) (C.a i 2) (puI C i) (moI C i) (raI C i)∧-moI C i≤pvI C i (sv i)∧pvI C i (sv i)≤moI C i:=by
 have g:=h.gm
 unfold gmE at g
 split at g
 · rename_i h0
   split at g
   · rename_i h1;exact⟨grE_ok h0,Z0 h1⟩
   · cases g
 · rename_i h0;exact absurd g h0
theorem MvOK.refBounds(h:MvOK K wz C S l sv i)(hn:betw S.n 0 1=true)(x:Int)(w:World):
 Calls prog 97 #[.agg (Qbm C i),Vi x,Vi (pvI C i (sv i))] w (Rt w (.agg #[Vi (bdL C i x S.n (pvI C i (sv i))),Vi (bdH C i x S.n (pvI C i (sv i)))])):=by
 refine(refBounds_any _ _ _ _ _ _ x _ h.gok.1 h.gok.2.1 h.gok.2.2 w).mono ?_;rintro e w' ⟨⟨a,b,rfl,ha,hb⟩,hw⟩;refine⟨?_,hw⟩
 unfold bdL bdH
 rw[hn,if_pos rfl,if_pos rfl,hiI_is ha,hiI_is hb]
theorem MvOK.bdle(h:MvOK K wz C S l sv i)(x:Int):bdL C i x S.n (pvI C i (sv i))≤bdH C i x S.n (pvI C i (sv i)):=by
 have hr:=h.ra
 cases hn:betw S.n 0 1
 · unfold bdL bdH
   rw[hn];simp only[Bool.false_eq_true,if_false]
   omega
 · obtain⟨e,w',h1⟩:∃a b,IsHi (raI C i) (puI C i) (-Yp (moI C i) (raI C i) (pvI C i (sv i))) (-Yj (moI C i) (raI C i) (pvI C i (sv i))) (Ze x (-2000000) 2000000-C.a i 2-C.a i 0) a∧IsHi (raI C i) (puI C i) (Yj (moI C i) (raI C i) (pvI C i (sv i))) (Yp (moI C i) (raI C i) (pvI C i (sv i))) (C.a i 1-C.a i 2-Ze x (-2000000) 2000000) b:=by
    have c:=can_le hr.1 h.mo.1 h.gok.2.1 h.gok.2.2;exact⟨_,_,hiF_is (R:=raI C i) (p:=puI C i) (-Yj (moI C i) (raI C i) (pvI C i (sv i))- -Yp (moI C i) (raI C i) (pvI C i (sv i))).toNat (by omega) (fun s h3 h4=>by omega),hiF_is (R:=raI C i) (p:=puI C i) (Yp (moI C i) (raI C i) (pvI C i (sv i))-Yj (moI C i) (raI C i) (pvI C i (sv i))).toNat (by omega) (fun s h3 h4=>by omega)⟩
   unfold bdL bdH
   rw[hn,if_pos rfl,if_pos rfl,hiI_is h1.1,hiI_is h1.2];have c:=can_le hr.1 h.mo.1 h.gok.2.1 h.gok.2.2;exact no_cross h.gok.1 c.2.1 c.2.2.1 h1.1 h1.2
theorem MvOK.refSpread(h:MvOK K wz C S l sv i)(s:Int)(p:Option Addr)(ca:Nat)(w:World)(hv:VLs w p (sv i)):
 Calls prog 98 #[.agg (Qbu C i),.slice p (sv i).length ca,Vi s] w fun e w'=>(∃x cap,e=.returned (.slice x (sv i).length cap)∧ILs w' x (plI (C.a i 5) (C.a i 6) (sv i) s))∧Bw w w':=
 refSpread_any (C.a i 5) (C.a i 6) (C.a i 7) (C.a i 10) s _ (sv i) p ca h.ok h.n4 (levI_is (by have:=h.h5;omega) (Y2 (v:=s) (Um _ _ (sv i) (show -C.a i 5≤C.a i 5 by have:=h.h5;omega))).1) w hv
end
def MdS(w:World)(QR QH QK QZ g:Nat)(rc h1 ak:List Value)(L:List Sv)(u:World):Prop:=u.rangeAt QR 0 rc∧u.rangeAt QH 0 h1∧u.rangeAt QK 0 ak∧VLs u (some (Ad g 0)) L∧(∃cs:List Value,cs.length=3∧Blk 38 u QZ cs)∧Bw w u
theorem MdS.later(hb:Bw u u')(h:MdS w QR QH QK QZ g rc h1 ak L u):MdS w QR QH QK QZ g rc h1 ak L u':=
 ⟨Zg h.1 hb,Zg h.2.1 hb,Zg h.2.2.1 hb,h.2.2.2.1.later hb,h.2.2.2.2.1.elim fun cs k=>⟨cs,k.1,k.2.later hb⟩,Zc h.2.2.2.2.2 hb⟩
theorem Uf{V:Nat}(hg:g≠V)(vs:List Value)(o:Nat)(h:VLs u (some (Ad g 0)) L):VLs (u.setCells V o vs) (some (Ad g 0)) L:=by
 rcases h with h|⟨b,off,e,hc⟩
 · exact .inl h
 · simp only[Option.some.injEq,Addr.mk.injEq] at e;obtain⟨rfl,rfl,_⟩:=e;exact .inr ⟨g,0,rfl,fun k hk=>⟨W6 hg vs o u (hc k hk).1,W6 hg vs o u (hc k hk).2.1,W6 hg vs o u (hc k hk).2.2⟩⟩
theorem MdS.put(hz:QR≠QZ∧QH≠QZ∧QK≠QZ∧g≠QZ∧w.heap.size≤QZ)(vs:List Value)(h:MdS w QR QH QK QZ g rc h1 ak L u):MdS w QR QH QK QZ g rc h1 ak L (u.setCells QZ 0 vs):=
 ⟨World.rangeAt_setCells_apart h.1 QZ 0 vs (.inl hz.1),World.rangeAt_setCells_apart h.2.1 QZ 0 vs (.inl hz.2.1),World.rangeAt_setCells_apart h.2.2.1 QZ 0 vs (.inl hz.2.2.1),Uf hz.2.2.2.1 vs 0 h.2.2.2.1,h.2.2.2.2.1.elim fun cs k=>⟨_,by rw[putL_len];exact k.1,Blk.setCells vs 0 u cs k.2⟩,Zr vs 0 u h.2.2.2.2.2 hz.2.2.2.2⟩
theorem own_far{P j base:Nat}{x:Value}{size:Nat}{v:Value}{xs:List Value}(h:u.ownsRow base e size v n xs)(hP:some P≠v.ownBlock):(u.setCell (Ad P j) x).ownsRow base e size v n xs:=by
 refine⟨h.1,?_⟩
 rcases h.2 with h|⟨g,cap,cur,h1,h2,h3,h4⟩
 · exact .inl h
 · subst h1;exact .inr ⟨g,cap,cur,rfl,h2,(heap_setCell_other u ⟨P,j,none⟩ g x (fun(e:g=P)=>hP (by rw[e];rfl))).trans h3,h4⟩
theorem res_moved(tmps:Array Value)(U:World)(Y:Nat)(cs:List Value)(x:Value)(h6:tmps.getD 13 undef=.pointer (some (Ad Y 0)))(h7:tmps.getD 12 undef=x)(hR:U.rangeAt Y 0 cs)(hn:cs.length=3):
 (results Tryz.f54 tmps).run prog U=.ok (.tuple #[x,.agg cs.toArray]) U:=by
 have h3:tmps[13]?.getD undef=.pointer (some (Ad Y 0)):=by simpa using h6
 have h4:tmps[12]?.getD undef=x:=by simpa using h7
 simp[results,results54,h3,h4,asAddr,run_loadVar_mid U Y 0 38 cs _ hR underlying38 rfl (by rw[Xh,hn])]
theorem refMoved_ok{K:Nat}{wz:World}{S:FS}{C:CR}{l:List Rd}{sv:Nat→List Sv}(bx bv:Int)(i:Nat)(hi:i<2)(hm:MvOK K wz C S l sv i)(hlw:∀u,Bw w u→Lst u (C.p i) (C.al i)∧Lst u (C.q i) (C.zl i))(hn3:betw S.n 0 3=true)(hsn:S.sn i=(sv i).length)(hv:VLs w (S.sp i) (sv i)):
 Calls prog 54 #[.agg (Qab C i),.agg (stL S).toArray,Vi i,Vi bx,Vi bv,Vi (smp l (32+(i:Int)) 3).2] w fun e w'=>(∃g c,e=.returned (.tuple #[.slice (some (Ad g 0)) (sv i).length c,.agg #[Vi (hoM C i (S.hd i) (skI l i) bx bv S.n (sv i)).1,Vi (hoM C i (S.hd i) (skI l i) bx bv S.n (sv i)).2.1,Vi (hoM C i (S.hd i) (skI l i) bx bv S.n (sv i)).2.2]])∧w.heap.size≤g∧VLs w' (some (Ad g 0)) (svM C i (S.hd i) (skI l i) bx bv S.n (sv i)))∧Bw w w':=by
 obtain⟨i0',hi4,hz0,hz1,hz2⟩:=info_parts infoV;have hhr0:=Zea (C.a i 0) (C.a i 1) (C.a i 2) (C.a i 3) (C.a i 4) (C.a i 5) (C.a i 6) (C.a i 7) (C.a i 8) (C.a i 9) (C.a i 10) (C.a i 11) (C.a i 14) (C.p i) (C.q i) (C.al i).length (C.zl i).length (C.cn i) (C.cm i) hm.h4 hm.h5;have hgr0:=Zdt (C.a i 0) (C.a i 1) (C.a i 2) (C.a i 3) (C.a i 4) (C.a i 5) (C.a i 6) (C.a i 7) (C.a i 8) (C.a i 9) (C.a i 10) (C.a i 11) (C.a i 14) (C.p i) (C.q i) (C.al i).length (C.zl i).length (C.cn i) (C.cm i) hm.h4 hm.h5 hm.h3 hm.h7 hm.h6;have har:=Mg (C.a i 0) (C.a i 1) (C.a i 2) (C.a i 3) (C.a i 4) (C.a i 5) (C.a i 6) (C.a i 7) (C.a i 8) (C.a i 9) (C.a i 10) (C.a i 11) (C.a i 14) (C.p i) (C.q i) (C.al i).length (C.zl i).length (C.cn i) (C.cm i);have hhr:∀u,Calls prog 44 #[.agg (Qab C i)] u (Rt u (.agg (Qau C i))):=hhr0;have hgr:∀u,Calls prog 40 #[.agg (Qab C i)] u (Rt u (.agg (Qbm C i))):=hgr0;clear hhr0 hgr0;have hmo:=hm.mo;have hra:=hm.ra;have hpv:=hm.gok.2;have hcp0:=Yr (smU (sv i) (sv i).length) (-moI C i) (moI C i) (by omega);have hcp:∀u,Calls prog 94 #[Vi (smU (sv i) (sv i).length),Vi (-moI C i),Vi (moI C i)] u (Re u (Vi (pvI C i (sv i)))):=hcp0;have hcs0:=Yr (smp l (32+(i:Int)) 3).2 (-100) 100 (by omega);have hcs:∀u,Calls prog 94 #[Vi (smp l (32+(i:Int)) 3).2,Vi (-100),Vi 100] u (Re u (Vi (skI l i))):=hcs0
 have hcl0:=Yr (wtM C i (S.hd i) (skI l i) bx bv S.n (sv i)) (bdL C i bx S.n (pvI C i (sv i))) (bdH C i bx S.n (pvI C i (sv i))) (hm.bdle bx);have hcl:∀u,Calls prog 94 #[Vi (wtM C i (S.hd i) (skI l i) bx bv S.n (sv i)),Vi (bdL C i bx S.n (pvI C i (sv i))),Vi (bdH C i bx S.n (pvI C i (sv i)))] u (Re u (Vi (goM C i (S.hd i) (skI l i) bx bv S.n (sv i)))):=hcl0;clear hcp0 hcs0 hcl0;have hsu0:=fun u (h:VLs u (S.sp i) (sv i))=>sumOf_any (sv i) (S.sp i) (S.sc i) (by have:=hm.n4;omega) hm.is u h;have hwt:∀u,Bw w u→Calls prog 96 #[.agg (Qau C i),.agg #[Vi (S.hd i).1,Vi (S.hd i).2.1,Vi (S.hd i).2.2],.agg #[Vi (skI l i),Vi bx,Vi bv,Vi S.n,Vi (pvI C i (sv i))]] u (Rt u (.tuple #[Vi (wtM C i (S.hd i) (skI l i) bx bv S.n (sv i)),.agg #[Vi (haM C i (S.hd i) (skI l i) bx S.n),Vi (hdM C i (S.hd i) (skI l i) bx bv S.n (sv i)),Vi S.n]])):=
  fun u h=>refWanted_any (C.a i 0) (C.a i 1) (C.a i 11) (C.a i 14) (moI C i) (C.p i) (C.q i) (C.cn i) (C.cm i) (C.al i) (C.zl i) (S.hd i).1 (S.hd i).2.1 (S.hd i).2.2 (skI l i) bx bv S.n (pvI C i (sv i)) hm.ho u (hlw u h).1 (hlw u h).2
 have hbd:=fun h=>hm.refBounds h bx;have hsp0:=fun u (h:VLs u (S.sp i) (sv i))=>hm.refSpread (goM C i (S.hd i) (skI l i) bx bv S.n (sv i)) (S.sp i) (S.sc i) u h;have hwo:=hoE_want bx bv hm.ho;obtain⟨e1,e2,e3⟩:=Wh hwo;obtain⟨⟨a0,a1⟩,⟨d0,d1⟩,_,_⟩:=Up e2;obtain⟨⟨l0,l1⟩,⟨u0,u1⟩,_,_,m0',m1'⟩:=X7 (X8 e1).1;have hto:=refTold_any (C.a i 0) (C.a i 1) (C.a i 11) (C.a i 14) (moI C i) (C.p i) (C.q i) (C.al i).length (C.zl i).length (C.cn i) (C.cm i) (haM C i (S.hd i) (skI l i) bx S.n) (hdM C i (S.hd i) (skI l i) bx bv S.n (sv i)) S.n (skI l i) bx bv S.n (pvI C i (sv i)) (wtM C i (S.hd i) (skI l i) bx bv S.n (sv i)) (smU (svM C i (S.hd i) (skI l i) bx bv S.n (sv i)) (sv i).length) (Int.le_trans l0 a0) (Int.le_trans a1 u1) m0' m1' d0 d1;clear hwo e1 e2 e3 a0 a1 d0 d1 l0 l1 u0 u1 m0' m1';have hsl:(svM C i (S.hd i) (skI l i) bx bv S.n (sv i)).length=(sv i).length:=sik_len _ _ _
 have hsm0:=fun g c u (h:VLs u (some (Ad g 0)) (svM C i (S.hd i) (skI l i) bx bv S.n (sv i)))=>sumOf_any (svM C i (S.hd i) (skI l i) bx bv S.n (sv i)) (some (Ad g 0)) c (by rw[hsl];have:=hm.n4;omega) (fun k hk=>by
  rw[hsl] at hk
  unfold svM
  rw[sik_end _ _ hk]
  exact plI_bd hm.ok _ hk) u h
 rw[hsl] at hsm0;have hpl:(plI (C.a i 5) (C.a i 6) (sv i) (goM C i (S.hd i) (skI l i) bx bv S.n (sv i))).length=(sv i).length:=plI_len _ _ _ _;have HD:Hid (svM C i (S.hd i) (skI l i) bx bv S.n (sv i)=moU (sv i) (plI (C.a i 5) (C.a i 6) (sv i) (goM C i (S.hd i) (skI l i) bx bv S.n (sv i))) (sv i).length):=Za (moU_sik _ _).symm;have HM:Hid (hoM C i (S.hd i) (skI l i) bx bv S.n (sv i)=(haM C i (S.hd i) (skI l i) bx S.n,toD (C.a i 14) (moI C i) (haM C i (S.hd i) (skI l i) bx S.n) (hdM C i (S.hd i) (skI l i) bx bv S.n (sv i)) bx S.n (wtM C i (S.hd i) (skI l i) bx bv S.n (sv i)) (smU (svM C i (S.hd i) (skI l i) bx bv S.n (sv i)) (sv i).length),S.n)):=Za rfl;have hn1:=hm.n1;have hn4:=hm.n4;rw[HM.out,HD.out];rw[HD.out] at hto hsm0;clear hm hlw HM HD hsl;have Hb:=Za ((Blk.new (w.alloc (.cells (Qab C i) 26)) 41 (stL S)).later (Zb _ (.cells #[Vi 0,Vi 0,Vi 0] 38)));rw[World.size_alloc] at Hb;have Hz:Hid (Blk 41 (((w.alloc (.cells (Qab C i) 26)).alloc (.cells (stL S).toArray 41)).alloc (.cells #[Vi 0,Vi 0,Vi 0] 38)) (w.heap.size+1) (stL S)):=Hb;clear Hb
 have Hk:Hid (Blk 26 (((w.alloc (.cells (Qab C i) 26)).alloc (.cells (stL S).toArray 41)).alloc (.cells #[Vi 0,Vi 0,Vi 0] 38)) w.heap.size (Qad C i)):=Za (((Blk.new w 26 (Qad C i)).later (Zb _ (.cells (stL S).toArray 41))).later (Zb _ (.cells #[Vi 0,Vi 0,Vi 0] 38)));have Hg:Hid (Blk 38 (((w.alloc (.cells (Qab C i) 26)).alloc (.cells (stL S).toArray 41)).alloc (.cells #[Vi 0,Vi 0,Vi 0] 38)) (w.heap.size+1+1) [Vi 0,Vi 0,Vi 0]):=Za (by have:=Blk.new ((w.alloc (.cells (Qab C i) 26)).alloc (.cells (stL S).toArray 41)) 38 [Vi 0,Vi 0,Vi 0];rw[World.size_alloc,World.size_alloc] at this;exact this)
 have HN:Hid (Bw w (((w.alloc (.cells (Qab C i) 26)).alloc (.cells (stL S).toArray 41)).alloc (.cells #[Vi 0,Vi 0,Vi 0] 38))):=Za (Zc (Zc (Zb w (.cells (Qab C i) 26)) (Zb _ (.cells (stL S).toArray 41))) (Zb _ (.cells #[Vi 0,Vi 0,Vi 0] 38)));obtain⟨h0,h1,h2,HHE⟩:∃h0 h1 h2,Hid ((S.hd i).1=h0∧(S.hd i).2.1=h1∧(S.hd i).2.2=h2):=⟨_,_,_,Za ⟨rfl,rfl,rfl⟩⟩;simp only[HHE.out.1,HHE.out.2.1,HHE.out.2.2] at hwt;obtain⟨p,HPE⟩:∃p,Hid (plI (C.a i 5) (C.a i 6) (sv i) (goM C i (S.hd i) (skI l i) bx bv S.n (sv i))=p):=⟨_,Za rfl⟩;rw[HPE.out] at hsm0 hpl hto;rw[HPE.out];simp only[HPE.out] at hsp0;clear HPE;have wr0:=Wr (-moI C i);have wr1:=Wr (pvI C i (sv i)-raI C i);have wr2:=Wr (pvI C i (sv i)+raI C i);have Ho:Hid (betw S.n 0 1=false→bdL C i bx S.n (pvI C i (sv i))=pvI C i (sv i)-raI C i∧bdH C i bx S.n (pvI C i (sv i))=pvI C i (sv i)+raI C i):=Za (fun h=>by unfold bdL bdH;rw[h];exact⟨rfl,rfl⟩);generalize toD (C.a i 14) (moI C i) (haM C i (S.hd i) (skI l i) bx S.n) (hdM C i (S.hd i) (skI l i) bx bv S.n (sv i)) bx S.n (wtM C i (S.hd i) (skI l i) bx bv S.n (sv i)) (smU (moU (sv i) p (sv i).length) (sv i).length)=td at *;generalize smU (moU (sv i) p (sv i).length) (sv i).length=gt at *;generalize smU (sv i) (sv i).length=su at *;generalize goM C i (S.hd i) (skI l i) bx bv S.n (sv i)=go at *;generalize wtM C i (S.hd i) (skI l i) bx bv S.n (sv i)=wt at *;generalize hdM C i (S.hd i) (skI l i) bx bv S.n (sv i)=hd at *;generalize haM C i (S.hd i) (skI l i) bx S.n=ha at *;generalize bdL C i bx S.n (pvI C i (sv i))=lo at *;generalize bdH C i bx S.n (pvI C i (sv i))=hi' at*
 generalize hm':(sv i).length=m at *;generalize skI l i=sk at *;generalize pvI C i (sv i)=pv at *;(try dsimp only[Qau,Qbm] at *);generalize moI C i=mo at *;generalize raI C i=ra at *;generalize puI C i=pu at *;have hlwc:=(Hz.out.cell (show(stL S)[29]?=some (Vi S.n) from rfl)).1;have hsvc:=(Hz.out.cell (Wy S hi)).1;have Hb:=Za (Hz.out.sub (23+i*3) 3);rw[st_hold S hi] at Hb
 unfold hdL at Hb
 rw[HHE.out.1,HHE.out.2.1,HHE.out.2.2] at Hb;rw[hsn] at hsvc;have HV:=Za hv;have hb3:=Z0 hn3;clear HHE hsn hv hn3 Hz;generalize (smp l (32+(i:Int)) 3).2=stk at *;generalize S.n=n at*
 have i0:(0:Int)≤(i:Int):=by omega
 have i1:(i:Int)<2:=by omega
 go_enter func54,ntmps54
 go_upto_region 1 with fail;generalize (((w.alloc (.cells (Qab C i) 26)).alloc (.cells (stL S).toArray 41)).alloc (.cells #[Vi 0,Vi 0,Vi 0] 38))=v0 at *;have hQ:w.heap.size<w.heap.size+1+1∧w.heap.size+1<w.heap.size+1+1:=⟨by omega,by omega⟩;generalize w.heap.size+1+1=QZ at *;generalize w.heap.size+1=QS at *;have Hl:=Za Hk.out.range;have hQZ0:=Hg.out.lt;refine Cs [25,26,27,28,14,15] ?_;refine Cl (x:=.tmp 6) 0 25 [] (fun y w _ u hSw=>⟨Zg Hl.out hSw,rfl⟩) underlying26 Zs ?_;refine Cc 1 26 [0] (fun y w h _=>hgr _) ?_;refine Cl (x:=.tmp 6) 2 27 [] (fun y w _ u hSw=>⟨Zg Hl.out hSw,rfl⟩) underlying26 Zs ?_;refine Cc 3 28 [2] (fun y w h _=>hhr _) ?_;refine Ca 4 14 ?_;refine Ca 5 15 ?_;refine Cn 2 8 [6,7] (fun y u1 hB hf=>?_);obtain⟨XE,e,hA⟩:=hf.1;have Hr:Hid (NB _ _ _ XE [Vi 0,Vi 0,Vi 0,Vi 0,Vi 0,.slice none 0 0,.slice none 0 0]):=Za hA;(try simp only[e]);clear e hA;obtain⟨XA,e,hA⟩:=hf.2.1;have Ha:Hid (NB _ _ _ XA [Vi 0,Vi 0,Vi 0,Vi 0,Vi 0,Vi 0]):=Za hA;(try simp only[e]);clear e hA;have Hj:=Za hB;clear hB hf;refine Ra 6 (fun K hK=>?_);rw[if_pos (by rfl)];refine Yi 99 (.tmp 14) (.tmp 26) rfl XA 0 #[Vi (C.a i 0),Vi (C.a i 1),Vi (C.a i 2),Vi pu,Vi mo,Vi ra] rfl rfl (Ha.out.1.there (Nat.le_of_ble_eq_true rfl)) infoG6 (Zn _ rfl) rfl ?_;have Hh:=Za (Zr (Qbj C i pu mo ra) 0 u1 Hj.out (NB.le Ha.out));have Hi:Hid (NB 99 v0.heap.size (u1.setCells XA 0 (Qbj C i pu mo ra)) XA (Qbj C i pu mo ra)):=Za ⟨Blk.setCells (Qbj C i pu mo ra) 0 u1 [Vi 0,Vi 0,Vi 0,Vi 0,Vi 0,Vi 0] Ha.out.1,NB.le Ha.out⟩;have Hm:=Za (NB.farCells (NB.ne Hr.out Ha.out (by decide)) (Qbj C i pu mo ra) 0 Hr.out);generalize hU:World.setCells _ XA 0 _=u2 at *;clear hU;refine hK.out _ _ Hh.out (fun _=>?_);clear hK K;clear Hj Hr Ha
 refine Ra 7 (fun K hK=>?_);rw[if_pos (by rfl)];refine Yi 107 (.tmp 15) (.tmp 28) rfl XE 0 #[Vi (C.a i 0),Vi (C.a i 1),Vi (C.a i 11),Vi (C.a i 14),Vi mo,.slice (C.p i) (C.al i).length (C.cn i),.slice (C.q i) (C.zl i).length (C.cm i)] rfl rfl (Hm.out.1.there (Nat.le_of_ble_eq_true rfl)) infoR7 (Zn _ rfl) rfl ?_;have Ht:=Za (Zr (Qao C i mo) 0 u2 Hh.out (NB.le Hm.out));have Hu:Hid (NB 107 v0.heap.size (u2.setCells XE 0 (Qao C i mo)) XE (Qao C i mo)):=Za ⟨Blk.setCells (Qao C i mo) 0 u2 [Vi 0,Vi 0,Vi 0,Vi 0,Vi 0,.slice none 0 0,.slice none 0 0] Hm.out.1,NB.le Hm.out⟩;have Hv:=Za (NB.farCells (NB.ne Hi.out Hm.out (by decide)) (Qao C i mo) 0 Hi.out);generalize hU:World.setCells _ XE 0 _=u3 at *;clear hU;refine hK.out _ _ Ht.out (fun _=>?_);clear hK K;clear Hh Hm Hi;refine Dn ?_;go_simp;have hA:=Hv.out;clear Hv;have hE:=Hu.out;clear Hu;have hB:=Ht.out;clear Ht;generalize u3=v1 at hB hA hE⊢;refine Ek ?_;have Hd:=Za hA.1;have Hc:=Za hE.1;have hQG:=NB.le hA;have hQR:=NB.le hE;clear hA hE Hl;generalize XA=QG at *;generalize XE=QR at *;have hlwc:=cell_later hB hlwc;have hsvc:=cell_later hB hsvc;have Hb:=Za (Zg Hb.out hB);have Hk:=Za (Hk.out.later hB);have Hg:=Za (Hg.out.later hB);have HF:=Za (Zc HN.out hB);clear hB HN
 go_upto_region 2 with fail;have hsv:=hsvc;have hg4:=(Hd.out.cell (j:=4) rfl).1;have hsu:=fun u (h:Bw v1 u)=>hsu0 u (HV.out.later (Zc HF.out h));refine Cs [29,30,31,32,33,34,35,36,37,38,39,16] ?_;refine Cp 0 29 [] ?_;refine Cp 1 30 [] ?_;refine Cp 2 31 [1,0] ?_;refine Cq (fun _ h=>cell_later h hsv) 3 32 [2] ?_;refine Cc 4 33 [3] (fun y w h _=>Z8 (hsu _ h)) ?_;refine Cp 5 34 [] ?_;refine Cq (fun _ h=>cell_later h hg4) 6 35 [5] ?_;refine Cp 7 36 [6] ?_;refine Cp 8 37 [] ?_;refine Cq (fun _ h=>cell_later h hg4) 9 38 [8] ?_;refine Cc 10 39 [4,7,9] (fun y w h _=>Z8 (hcp _)) ?_;refine Cp 11 16 [10] ?_;refine Ce (fun y u1 hB hf=>?_);have Hj:=Za hB;clear hB hf;go_simp;have hB:=Hj.out;clear Hj;generalize u1=v2 at hB⊢;refine Ek ?_;clear hsu hg4 hsv;have hlwc:=cell_later hB hlwc;have hsvc:=cell_later hB hsvc;have Hb:=Za (Zg Hb.out hB);have Hk:=Za (Hk.out.later hB);have Hg:=Za (Hg.out.later hB);have Hd:=Za (Hd.out.later hB);have Hc:=Za (Hc.out.later hB);have HO:=Za (Zc HF.out hB);clear hB HF hsu0 hcp
 go_upto_region 3 with fail;have hlw:=hlwc;refine Cs [40,41,42,43,44,45,46,47,17] ?_;refine Cp 0 40 [] ?_;refine Cc 1 41 [0] (fun y w h _=>Z8 (hcs _)) ?_;refine Cp 2 42 [] ?_;refine Cp 3 43 [] ?_;refine Cp 4 44 [] ?_;refine Cq (fun _ h=>cell_later h hlw) 5 45 [4] ?_;refine Cp 6 46 [] ?_;refine Cp 7 47 [1,2,3,5,6] ?_;refine Ca 8 17 ?_;refine Cn 1 10 [9] (fun y u1 hB hf=>?_);obtain⟨XA,e,hA⟩:=hf.1;have Ha:Hid (NB _ _ _ XA [Vi 0,Vi 0,Vi 0,Vi 0,Vi 0]):=Za hA;(try simp only[e]);clear e hA;have Hj:=Za hB;clear hB hf;refine Ra 9 (fun K hK=>?_);rw[if_pos (by rfl)];refine Yi 110 (.tmp 17) (.tmp 47) rfl XA 0 #[Vi sk,Vi bx,Vi bv,Vi n,Vi pv] rfl rfl (Ha.out.1.there (Nat.le_of_ble_eq_true rfl)) infoK5 (Zn _ rfl) rfl ?_;have Hh:=Za (Zr [Vi sk,Vi bx,Vi bv,Vi n,Vi pv] 0 u1 Hj.out (NB.le Ha.out));have Hi:Hid (NB 110 v2.heap.size (u1.setCells XA 0 [Vi sk,Vi bx,Vi bv,Vi n,Vi pv]) XA [Vi sk,Vi bx,Vi bv,Vi n,Vi pv]):=Za ⟨Blk.setCells [Vi sk,Vi bx,Vi bv,Vi n,Vi pv] 0 u1 [Vi 0,Vi 0,Vi 0,Vi 0,Vi 0] Ha.out.1,NB.le Ha.out⟩;generalize hU:World.setCells _ XA 0 _=u2 at *;clear hU;refine hK.out _ _ Hh.out (fun _=>?_);clear hK K;clear Hj Ha;refine Dn ?_;go_simp;have hA:=Hi.out;clear Hi;have hB:=Hh.out;clear Hh;generalize u2=v3 at hB hA⊢;refine Ek ?_;clear hlw;have Hf:=Za hA.1;have hQK:=NB.le hA;clear hA;generalize XA=QK at *;have hlwc:=cell_later hB hlwc;have hsvc:=cell_later hB hsvc;have Hb:=Za (Zg Hb.out hB);have Hk:=Za (Hk.out.later hB);have HY:=Hg.out.lt;have Hg:=Za (Hg.out.later hB);have Hd:=Za (Hd.out.later hB);have Hc:=Za (Hc.out.later hB);have HG:=Za (Zc HO.out hB);clear hB HO hcs
 go_upto_region 4 with fail;have HP:=Za Hc.out.range;have Hw:=Za Hf.out.range;have hwt:=fun u (h:Bw v3 u)=>hwt u (Zc HG.out h);refine Cs [49,50,51,52,53,54,55,48,56,57,19,18] ?_;refine Cl (x:=.tmp 15) 0 49 [] (fun y w _ u hSw=>⟨Zg HP.out hSw,rfl⟩) underlying107 infoR7 ?_;refine Cp 1 50 [] ?_;refine Cp 2 51 [] ?_;refine Cp 3 52 [2,1] ?_;refine Cl (x:=.tmp 52) 4 53 [3] (fun y w hF u hSw=>⟨Zg Hb.out hSw,hF.1⟩) underlying38 Xh ?_;refine Cl (x:=.tmp 17) 5 54 [] (fun y w _ u hSw=>⟨Zg Hw.out hSw,rfl⟩) underlying110 infoK5 ?_;refine Cc 6 55 [0,4,5] (fun y w h _=>hwt _ h) ?_;refine Cp 7 48 [6] ?_;refine Cp 8 56 [7] ?_;refine Cp 9 57 [7] ?_;refine Ca 10 19 ?_;refine Cp 11 18 [8] ?_;refine Cn 1 13 [12] (fun y u1 hB hf=>?_);obtain⟨XA,e,hA⟩:=hf.2.1;have Ha:Hid (NB _ _ _ XA [Vi 0,Vi 0,Vi 0]):=Za hA;(try simp only[e]);clear e hA;have Hj:=Za hB;clear hB hf;refine Ra 12 (fun K hK=>?_);rw[if_pos (by rfl)];refine Yi 38 (.tmp 19) (.tmp 57) rfl XA 0 #[Vi ha,Vi hd,Vi n] rfl rfl (Ha.out.1.there (Nat.le_of_ble_eq_true rfl)) Xh (Zn _ rfl) rfl ?_;have Hh:=Za (Zr [Vi ha,Vi hd,Vi n] 0 u1 Hj.out (NB.le Ha.out));have Hi:Hid (NB 38 v3.heap.size (u1.setCells XA 0 [Vi ha,Vi hd,Vi n]) XA [Vi ha,Vi hd,Vi n]):=Za ⟨Blk.setCells [Vi ha,Vi hd,Vi n] 0 u1 [Vi 0,Vi 0,Vi 0] Ha.out.1,NB.le Ha.out⟩;generalize hU:World.setCells _ XA 0 _=u2 at *;clear hU;refine hK.out _ _ Hh.out (fun _=>?_);clear hK K;clear Hj Ha;refine Dn ?_;go_simp;have hA:=Hi.out;clear Hi;have hB:=Hh.out;clear Hh;generalize u2=v4 at hB hA⊢;refine Ek ?_;clear HP Hw hwt;have Hp:=Za hA.1;have hQH:=NB.le hA;clear hA;generalize XA=QH at *;have H0:=Hg.out.lt;have hlwc:=cell_later hB hlwc;have hsvc:=cell_later hB hsvc;have Hk:=Za (Hk.out.later hB);have Hg:=Za (Hg.out.later hB);have Hd:=Za (Hd.out.later hB);have Hc:=Za (Hc.out.later hB);have Hf:=Za (Hf.out.later hB);have HQ:=Za (Zc HG.out hB);clear hB HG Hb;have H1:=Hd;have hg5:=(Hd.out.cell (j:=5) rfl).1
 go_upto_region 6 with fail;clear hg5;have HA:Hid (Blk 105 (v4.alloc (.cells #[Vi (pv-ra),Vi (pv+ra)] 105)) v4.heap.size [Vi (pv-ra),Vi (pv+ra)]):=Za (Blk.new v4 _ _);have Hx:=Za (Zb v4 (.cells #[Vi (pv-ra),Vi (pv+ra)] 105));have hQZ4:=Hg.out.lt;generalize v4.alloc (.cells #[Vi (pv-ra),Vi (pv+ra)] 105)=v5 at *;generalize hQP:v4.heap.size=QP at HA⊢;have hlw5:=cell_later Hx.out hlwc
 go_upto_if 69 with fail
 go_cut [20] (fun q u=>q=.pointer (some (Ad QP 0))∧Bw v4 u∧Blk 105 u QP [Vi lo,Vi hi'])
 case first=>
  by_cases hn1:n≤1
  · have hbd:=hbd (Y6 (by omega));have H2:=Za (Hd.out.later Hx.out).range
    have hd1:decide (n≤1)=true:=by simpa using hn1
    go_wp2_with (first
     |(refine Lm 99 (.tmp 14) rfl QG 0 (Qbj C i pu mo ra) H2.out underlying99 infoG6 ?_)
     |(go_at_call 97;refine Sb (hbd _) fun v6 hb=>?_;have HR:=Za (HA.out.later hb);have H3:=Za (Zc Hx.out hb);have H4:=Za (HR.out.there (o:=0) (n:=2) (by simp));clear hb)
     |(refine Sq 105 _ _ rfl ?_;refine wpList_store_mid rfl 105 (.tmp 20) (.tmp 73) rfl QP 0 #[Vi lo,Vi hi'] rfl rfl H4.out infoP2 (Zn _ rfl) ?_))
    go_meet
    case rel=>exact⟨rfl,Zr _ 0 v6 H3.out (Nat.le_of_eq hQP),Blk.setCells [Vi lo,Vi hi'] 0 v6 _ HR.out⟩
  · have hd1:decide (n≤1)=false:=by simpa using hn1
    have hfr:=Ho.out (by simp only[betw,Bool.and_eq_false_iff,decide_eq_false_iff_not];omega);go_wp2_with fail
    go_meet
    case rel=>exact⟨rfl,Hx.out,by rw[hfr.1,hfr.2];exact HA.out⟩
 case rest=>
  obtain⟨rfl,hB,hP⟩:=hcut;rename World=>v7;have hs0:=(hP.cell (j:=0) rfl).1;have hs1:=(hP.cell (j:=1) rfl).1;have hsv:=cell_later hB hsvc;have Hk:=Za (Hk.out.later hB);have Hg:=Za (Hg.out.later hB);have Hc:=Za (Hc.out.later hB);have Hf:=Za (Hf.out.later hB);have Hp:=Za (Hp.out.later hB);have HH:=Za (Zc HQ.out hB);clear hB hP HA Hx HQ hlwc hsvc hlw5 hbd H1 Hd Ho
  go_upto_region 9 with fail;have Hl:=Za Hk.out.range;have hsp:=fun u (h:Bw v7 u)=>hsp0 u (HV.out.later (Zc HH.out h));refine Cs [74,75,76,77,78,79,80,81,82,83,84,85,86,22] ?_;refine Cl (x:=.tmp 6) 0 74 [] (fun y w _ u hSw=>⟨Zg Hl.out hSw,rfl⟩) underlying26 Zs ?_;refine Cc 1 75 [0] (fun y w h _=>har _) ?_;refine Cp 2 76 [] ?_;refine Cp 3 77 [] ?_;refine Cp 4 78 [3,2] ?_;refine Cq (fun _ h=>cell_later h hsv) 5 79 [4] ?_;refine Cp 6 80 [] ?_;refine Cp 7 81 [] ?_;refine Cq (fun _ h=>cell_later h hs0) 8 82 [7] ?_;refine Cp 9 83 [] ?_;refine Cq (fun _ h=>cell_later h hs1) 10 84 [9] ?_;refine Cc 11 85 [6,8,10] (fun y w h _=>Z8 (hcl _)) ?_;refine Cd 12 86 [1,5,11] (fun v u=>∃gp cp,v=.slice gp m cp∧ILs u gp p) (fun y w h _=>(hsp _ h).mono (by rintro e w' ⟨⟨gp,cp,rfl,hpl⟩,hb⟩;exact⟨_,rfl,⟨gp,cp,rfl,hpl⟩,hb⟩)) (fun _ _ _ ⟨a,b,h1,h3⟩ hb=>⟨a,b,h1,h3.later hb⟩) ?_;refine Cu (fun y=>y 86) 13 22 [12] ?_ (hy:=fun y w _ u=>by go_simp);refine Ce (fun y u1 hB hf=>?_);obtain⟨gp,cp,e,hpl⟩:=hf.2.1;simp only[e];have HI:=Za hpl;clear hpl e;have Hj:=Za hB;clear hB hf;go_simp;have hB:=Hj.out;clear Hj;generalize u1=v9 at hB HI⊢;refine Ek ?_;clear hs0 hs1 hsp Hl Hk har hcl;have hsv:=cell_later hB hsv;have H5:=Hg.out.lt;have Hg:=Za (Hg.out.later hB);have Hc:=Za (Hc.out.later hB);have Hf:=Za (Hf.out.later hB);have Hp:=Za (Hp.out.later hB);have HB:=Za (Zc HH.out hB);have hz9:=hB.size;clear hB HH
  obtain⟨bp,op,rfl,HPC⟩:∃b off,gp=some (Ad b off)∧Hid (∀k,k<p.length→Kc v9 b (off+k) (Vi (p.getD k 0))):=by
   rcases HI.out with h|⟨b,off,h,hc⟩
   · subst h;simp at hpl;omega
   · exact⟨b,off,h,Za hc⟩
  clear HI
  go_upto_region 11 with fail;have H6:=Hg.out.lt
  go_loopw [21,23] (fun s0 ix wr=>∃k:Nat,k≤m∧ix=Vi k∧wr.ownsRow v9.heap.size 116 3 s0 k (svL (moU (sv i) p k))∧Bw v9 wr) (fun _ ix _=>m-(intOf ix).toNat)
  case atStart=>exact⟨0,by omega,rfl,World.ownsRow_nil _ _ _ _,Below.refl _ _⟩
  case round=>
   obtain⟨k,hk,rfl,hown,hbw⟩:=hrel
   by_cases hlt:k<m
   · obtain⟨b,off,hpo,c0,c1,c2⟩:=(HV.out.later (Zc HB.out hbw)).at (k:=k) (by omega);have hsv2:=cell_later hbw hsv;rw[hpo] at hsv2;have hpk:=cell_later hbw (HPC.out k (by omega));generalize hpke:p.getD k 0=pk at *;have HS:Hid (moU (sv i) p (k+1)=moU (sv i) p k++[(pk,(svAt (sv i) k).2)]):=Za (by rw[moU,hpke]);generalize hsi:(svAt (sv i) k).1=si at *;generalize hsb:(svAt (sv i) k).2.1=sb at *;generalize hso:(svAt (sv i) k).2.2=so at *;have H7:Hid (svL (moU (sv i) p (k+1))=svL (moU (sv i) p k)++[Vi pk,Vi sb,.bool so]):=Za (by rw[HS.out,svL_snoc,hsb,hso])
     have k0:(0:Int)≤(k:Int):=by omega
     have k1:(k:Int)<(m:Int):=by omega
     have Hs:=Za hown;have Hn:=Za hbw;clear hown hbw HS hpke hsi hsb hso hpo;have HJ:=Za (own_apart Hs.out);have Hy:Hid (Blk 116 (wr.alloc (.cells #[Vi si,Vi sb,.bool so] 116)) wr.heap.size [Vi si,Vi sb,.bool so]):=Za (Blk.new wr _ _);have hpk:=cell_later (Zb wr (.cells #[Vi si,Vi sb,.bool so] 116)) hpk;have Hs:=Za (Hs.out.alloc (.cells #[Vi si,Vi sb,.bool so] 116));have hqw:=Hn.out.size;have Hn:=Za (Zc Hn.out (Zb wr (.cells #[Vi si,Vi sb,.bool so] 116)))
     go_upto_region 14 with fail;clear c0 c1 c2 hsv2;generalize wr.alloc (.cells #[Vi si,Vi sb,.bool so] 116)=y1 at *;generalize wr.heap.size=q1 at Hy HJ hqw⊢;have f0:=(Hy.out.cell (j:=0) rfl).1;have f1:=(Hy.out.cell (j:=0) rfl).2
     go_upto_region 15 with fail;clear f0 f1 hpk;have HC:Hid (Blk 116 (y1.setCell (Ad q1 0) (Vi pk)) q1 [Vi pk,Vi sb,.bool so]):=Za (Hy.out.set 0 (Vi pk));have Hs:=Za (own_far (x:=Vi pk) (j:=0) Hs.out HJ.out);have Hn:=Za (Hn.out.setCell (p:=⟨q1,0,none⟩) hqw (Vi pk));generalize y1.setCell (Ad q1 0) (Vi pk)=y2 at *;have d0:=(HC.out.cell (j:=0) rfl).1;have d1:=(HC.out.cell (j:=1) rfl).1;have d2:=(HC.out.cell (j:=2) rfl).1;clear Hy HC HJ
     go_wp2_with (at_builtin;refine wpList_append_lies _ rfl _ _ 35 rfl v9.heap.size 116 i0' (.agg #[Vi 0,Vi 0,.bool false]) 3 24 underlying35 hi4 hz0 hz1 hz2 rfl (by decide) _ _ _ rfl (Hs.out.alloc _) ⟨y2.heap.size,0,none⟩ 1 1 [Vi pk,Vi sb,.bool so] rfl rfl (h3new y2 _ _ _ _) (fun x hx=>by simp at hx;rcases hx with rfl|rfl|rfl<;>rfl) (by omega) (by unfold maxLen;omega) (by omega) (Zc Hn.out (Zb _ _)).size _ rfl ?_;intro g9 c9 x9 hown hgrow hat hlt9;have HE:=Za hown;have HK:=Za ((Zc Hn.out (Zb _ _)).grown hgrow (Zc Hn.out (Zb _ _)).size (fun q hq=>(Hs.out.lt q hq).1));clear hown hgrow hat hlt9);go_roundw
     case rel=>exact⟨k+1,by omega,by go_num,by rw[H7.out];exact HE.out,HK.out⟩
     case measure=>simp[intOf];omega
   · obtain rfl:k=m:=by omega
     obtain⟨g,c,hv',hg0,hg1⟩:=hown.form (by omega);subst hv';have HT:=Za (vls_of_row (moU_len _ _ _).symm hown);have HZ:=Za (Hg.out.later hbw);have Hc:=Za (Hc.out.later hbw).range;have Hf:=Za (Hf.out.later hbw).range;have Hp:=Za (Hp.out.later hbw).range;have Hn:=Za (Zc HB.out hbw);have hzw:=HB.out.size;clear hown hbw HPC hsv Hg HB;generalize hL':moU (sv i) p k=L' at *;have HU:Hid (QR≠QZ∧QH≠QZ∧QK≠QZ∧g≠QZ∧w.heap.size≤QZ):=Za ⟨by omega,by omega,by omega,by omega,by omega⟩;have hsm:=fun u h=>(hsm0 g c u h).mono (fun _ w' h=>And.intro h.1 (show Bw u w' by rw[h.2];exact Below.refl _ _))
     go_upto_region 16 with fail;have HX:Hid (MdS w QR QH QK QZ g (Qao C i mo) [Vi ha,Vi hd,Vi n] [Vi sk,Vi bx,Vi bv,Vi n,Vi pv] L' wr.drew):=Za (MdS.later (Below.refl _ _).drew ⟨Hc.out,Hp.out,Hf.out,HT.out,⟨_,rfl,HZ.out⟩,Hn.out⟩);clear Hc Hp Hf HT HZ Hn;refine wp_region_held_drew (S:=fun u=>(MdS w QR QH QK QZ g (Qao C i mo) [Vi ha,Vi hd,Vi n] [Vi sk,Vi bx,Vi bv,Vi n,Vi pv] L' u)) (by kernel_rfl) (HX.out) (fun _=>?_);have Hq:Hid ((MdS w QR QH QK QZ g (Qao C i mo) [Vi ha,Vi hd,Vi n] [Vi sk,Vi bx,Vi bv,Vi n,Vi pv] L' wr.drew)):=Za (HX.out);refine Tq 0 Hq.out ?_;simp only[Act.put,Ly];refine Tk 1 rfl (yieldsIf_load_mid (by rfl) 107 (.tmp 15) rfl QR 0 rfl (Qao C i mo) _ (fun w hSw=>hSw.1) underlying107 rfl infoR7) Hq.out ?_;simp only[Act.put,Ly];refine Tk 2 rfl (yieldsIf_load_mid (by rfl) 38 (.tmp 19) rfl QH 0 rfl [Vi ha,Vi hd,Vi n] _ (fun w hSw=>hSw.2.1) underlying38 rfl Xh) Hq.out ?_;simp only[Act.put,Ly];refine Tk 3 rfl (yieldsIf_load_mid (by rfl) 110 (.tmp 17) rfl QK 0 rfl [Vi sk,Vi bx,Vi bv,Vi n,Vi pv] _ (fun w hSw=>hSw.2.2.1) underlying110 rfl infoK5) Hq.out ?_;simp only[Act.put,Ly];refine Tq 4 Hq.out ?_;simp only[Act.put,Ly];refine Tq 5 Hq.out ?_;simp only[Act.put,Ly];refine Ra 6 (fun K hK=>?_);go_simp;refine Sb (hsm _ Hq.out.2.2.2.1) fun u1 hb=>?_;have Hj:=Za (MdS.later hb Hq.out);clear hb;go_wp2_with fail;refine hK.out _ _ Hj.out (fun _=>?_);clear hK K;refine Ra 7 (fun K hK=>?_);go_simp;refine Sb (hto _) fun u2 hb=>?_;have Hh:=Za (MdS.later hb Hj.out);clear hb;go_wp2_with fail;refine hK.out _ _ Hh.out (fun _=>?_);clear hK K;clear Hj;refine Tq 8 Hh.out ?_;simp only[Act.put,Ly];refine Ra 9 (fun K hK=>?_);rw[if_pos (by rfl)]
     refine Yi 38 (.tmp 13) (.tmp 116) rfl QZ (0) #[Vi ha,Vi td,Vi n] rfl rfl (by obtain⟨cs,h1,h2⟩:=Hh.out.2.2.2.2.1;exact h2.there (by rw[h1];exact Nat.le_refl _)) Xh (Zn _ rfl) rfl ?_;have Ht:=Za (MdS.put HU.out [Vi ha,Vi td,Vi n] Hh.out);have H8:=Za (World.rangeAt_setCells_same _ QZ 0 [Vi ha,Vi td,Vi n] (by obtain⟨cs,h1,h2⟩:=Hh.out.2.2.2.2.1;exact h2.there (by rw[h1];exact Nat.le_refl _)));have HL:=Za (MdS.put HU.out [Vi ha,Vi td,Vi n] Hh.out);refine hK.out _ _ Ht.out (fun _=>?_);clear hK K;clear Hh;refine Dn ?_;go_simp;refine Ek ?_;go_wp2_with fail;refine bodyPost_ret (v:=.tuple #[.slice (some (Ad g 0)) k c,.agg #[Vi ha,Vi td,Vi n]]) (res_moved _ _ QZ [Vi ha,Vi td,Vi n] _ rfl rfl H8.out rfl) rfl ⟨⟨g,⟨c,rfl⟩,by omega,(by first|exact HL.out.2.2.2.1|(rw[hL'];exact HL.out.2.2.2.1))⟩,HL.out.2.2.2.2.2⟩
theorem Uu(a c d:Int)(hm:Yc (a,3,c,d)=true)(w:World):
 Calls prog 55 #[Vi a,Vi c,Vi d] w (Rt w (.int .u32 (pk1 (a,3,c,d)))):=by
 have hw:=fun w=>(Int.lt_or_le d 0).elim (fun h=>word_below a 3 c d hm h w) (fun h=>word_above a 3 c d hm h w);have HE:Hid (Zz a 3 c d=pk1 (a,3,c,d)):=Za rfl;rw[HE.out] at hw;generalize pk1 (a,3,c,d)=z at *;clear HE hm
 go_enter func55,ntmps55
 go_wp2_with (go_at_call 72;refine Sb (hw _) fun w1 hb=>?_);go_ret;exact⟨rfl,hb⟩
end Go.Proofs.YtnfdfiholcelaaaGreatDoor
