import Derived.Deep.AppendLies
import Derived.OwnWalk
import Derived.Shelf.SlSorted.Search
import Derived.Test.YtnfdfiholcelaaaGreatDoorJh00
import Derived.Test.YtnfdfiholcelaaaGreatDoorJh05
import Derived.Test.YtnfdfiholcelaaaGreatDoorJh09
import Derived.Test.YtnfdfiholcelaaaGreatDoorJh12
import Derived.Test.YtnfdfiholcelaaaGreatDoorJh15
set_option maxRecDepth 100000
set_option maxHeartbeats 20000000
namespace Go.Proofs.YtnfdfiholcelaaaGreatDoor
open Go.RowKit Plain Tryz
abbrev He:=Int×Int×Int
def heAt(l:List He)(k:Nat):He:=l.getD k (0,0,0)
def HLs(w:World)(a:Option Addr)(l:List He):Prop:=l=[]∨∃b off,a=some (Ad b off)∧∀k,k<l.length→w.cell? (Ad b (off+k*3))=some (Vi (heAt l k).1)∧w.cell? (Ad b (off+k*3+1))=some (Vi (heAt l k).2.1)∧w.cell? (Ad b (off+k*3+2))=some (Vi (heAt l k).2.2)
theorem HLs.later{w w':World}{a:Option Addr}{l:List He}(h:HLs w a l)(hb:Below w.heap.size w w'):HLs w' a l:=by
 rcases h with h|⟨b,off,h,hc⟩
 · exact .inl h
 · exact .inr ⟨b,off,h,fun k hk=>⟨cell_later hb (hc k hk).1,cell_later hb (hc k hk).2.1,cell_later hb (hc k hk).2.2⟩⟩
theorem HLs.at{w:World}{a:Option Addr}{l:List He}(h:HLs w a l){k:Nat}(hk:k<l.length):∃b off,a=some (Ad b off)∧w.cell? (Ad b (off+k*3))=some (Vi (heAt l k).1)∧w.cell? (Ad b (off+k*3+1))=some (Vi (heAt l k).2.1)∧w.cell? (Ad b (off+k*3+2))=some (Vi (heAt l k).2.2):=by
 rcases h with h|⟨b,off,h,hc⟩
 · subst h;simp at hk
 · exact⟨b,off,h,hc k hk⟩
def weU(l:List He):Nat→Int
 |0=>0
 |k+1=>Zap [weU l k,heE (heAt l k).1 (heAt l k).2.1 (heAt l k).2.2]
def wlU(l:List He):Nat→Int
 |0=>0
 |k+1=>mxL (wlU l k) (lawI (heAt l k).1 (heAt l k).2.1 (heAt l k).2.2)
theorem weU_step(l:List He)(k:Nat):weU l (k+1)=if weU l k=0 then heE (heAt l k).1 (heAt l k).2.1 (heAt l k).2.2 else weU l k:=by
 simp only[weU,Zap]
 split
 · split
   · rename_i h;rw[h]
   · rfl
 · rfl
theorem weU_stay{l:List He}{k:Nat}(h:weU l k≠0):∀m,k≤m→weU l m=weU l k:=by
 intro m hm
 induction m with
 |zero=>
  have:k=0:=by omega
  subst this;rfl
 |succ m ih=>
  by_cases e:k=m+1
  · subst e;rfl
  · have i:=ih (by omega);rw[weU_step,i,if_neg h]
def waI(l:List He):Int:=if weU l l.length=0 then wlU l l.length else 0
theorem wanted_any(l:List He)(a:Option Addr)(cap:Nat)(hl:l.length≤9223372036854775807)(w:World)(hv:HLs w a l):
 Calls prog 110 #[.slice a l.length cap] w fun e w'=>e=.returned (.tuple #[Vi (waI l),errV (weU l l.length)])∧Below w.heap.size w w':=by
 have HV:=Zab hv;clear hv
 go_enter func110,ntmps110
 go_wp2
 go_loopw [4,10] (fun s i wr=>∃k:Nat,k≤l.length∧i=Vi k∧s=Vi (wlU l k)∧Hid (weU l k=0)∧Below w.heap.size w wr) (fun _ i _=>l.length-(intOf i).toNat)
 case atStart=>exact⟨0,Nat.zero_le _,rfl,rfl,rfl,Below.refl _ _⟩
 case round=>
  obtain⟨k,hk,rfl,rfl,hE,hb⟩:=hrel
  by_cases hlt:k<l.length
  · obtain⟨bl,ol,rfl,d0,d1,d2⟩:=(HV.out.later hb).at hlt;have HS:=Zab (weU_step l k);have HL:=Zab (show wlU l (k+1)=mxL (wlU l k) (lawI (heAt l k).1 (heAt l k).2.1 (heAt l k).2.2) from rfl)
    have j0:(0:Int)≤(k:Int):=by omega
    have j1:(k:Int)<(l.length:Int):=by omega
    have HB:=Zab hb;clear hb
    by_cases hz:heE (heAt l k).1 (heAt l k).2.1 (heAt l k).2.2=0
    · have hc:=lawCheck_any (heAt l k).1 (heAt l k).2.1 (heAt l k).2.2;have hq:=asked_any (heAt l k).1 (heAt l k).2.1 (heAt l k).2.2 (heE_zero hz);have hm:=worse_any (wlU l k) (lawI (heAt l k).1 (heAt l k).2.1 (heAt l k).2.2);rw[hz,Zar] at hc;have HZ:=Zab (show weU l (k+1)=0 by rw[HS.out,if_pos hE.out,hz]);clear hz HS;generalize mxL (wlU l k) (lawI (heAt l k).1 (heAt l k).2.1 (heAt l k).2.2)=m at *;generalize lawI (heAt l k).1 (heAt l k).2.1 (heAt l k).2.2=q at *;generalize wlU l k=s at *;generalize (heAt l k).1=x0 at *;generalize (heAt l k).2.1=x1 at *;generalize (heAt l k).2.2=x2 at*
      go_wp2_with (first
       |(go_at_call 162;refine Sb (hc _) fun w1 hb1=>?_;have c0:=cell_later hb1 (a:=⟨wr.heap.size,0,none⟩) (v:=Vi x0) (by simp[go_sem]);have c1:=cell_later hb1 (a:=⟨wr.heap.size,1,none⟩) (v:=Vi x1) (by simp[go_sem]);have c2:=cell_later hb1 (a:=⟨wr.heap.size,2,none⟩) (v:=Vi x2) (by simp[go_sem]))
       |(go_at_call 164;refine Sb (hq _) fun w2 hb2=>?_)
       |(go_at_call 163;refine Sb (hm _) fun w' hw=>?_;have hw:=hw.symm;subst hw))
      go_roundw
      case rel=>exact⟨k+1,by omega,by go_num,by rw[HL.out],HZ,Zac HB.out (Zac (Zaa _ _) (Zac hb1 hb2))⟩
      case measure=>simp[intOf];omega
    · have hc:=lawCheck_any (heAt l k).1 (heAt l k).2.1 (heAt l k).2.2;rw[Zbg hz] at hc
      have hs:weU l (k+1)=heE (heAt l k).1 (heAt l k).2.1 (heAt l k).2.2:=by rw[HS.out,if_pos hE.out]
      have hf:weU l l.length=heE (heAt l k).1 (heAt l k).2.1 (heAt l k).2.2:=by rw[weU_stay (k:=k+1) (by rw[hs];exact hz) _ (by omega),hs]
      have HZ:=Zab (show waI l=0∧errV (weU l l.length)=.iface 44 (Vi (heE (heAt l k).1 (heAt l k).2.1 (heAt l k).2.2)) by
       refine⟨?_,?_⟩
       · unfold waI;rw[if_neg (by rw[hf];exact hz)]
       · rw[hf,Zbg hz])
      clear hz HS hs hf;generalize heE (heAt l k).1 (heAt l k).2.1 (heAt l k).2.2=q at *;generalize wlU l k=s at *;generalize (heAt l k).1=x0 at *;generalize (heAt l k).2.1=x1 at *;generalize (heAt l k).2.2=x2 at*
      go_wp2_with (first
       |(go_at_call 162;refine Sb (hc _) fun w1 hb1=>?_))
      go_ret2;exact⟨by rw[HZ.out.1,HZ.out.2];rfl,Zac HB.out (Zac (Zaa _ _) hb1)⟩
  · have e:k=l.length:=by omega
    subst e
    have HZ:=Zab (show waI l=wlU l l.length∧errV (weU l l.length)=.nilIface by
     unfold waI;rw[if_pos hE.out,hE.out];exact⟨rfl,rfl⟩)
    generalize wlU l l.length=s at *;go_wp2;go_ret2;exact⟨by rw[HZ.out.1,HZ.out.2];rfl,hb⟩
theorem infoTaker:(prog.info? 345).map (fun i=>(i.zero,i.size,i.bytes))=some (some .nilIface,1,16):=by kernel_rfl
theorem new_cell1(w1:World)(s1:Obj)(X:Value)(t:TypeId):∀j u,[X][j]?=some u→((w1.alloc s1).alloc (.cells #[X] t)).cell? ((⟨w1.heap.size+1,0,none⟩:Addr).add j)=some u:=by
 intro j u hu
 cases j with
 |zero=>simp at hu;subst hu;simp[go_sem,Addr.add]
 |succ j=>simp at hu
def tvU(T R:Int)(l:List Sv):Nat→List Value
 |0=>[]
 |k+1=>tvU T R l k++[tv T R (svAt l k)]
theorem tvU_len(T R:Int)(l:List Sv):∀k,(tvU T R l k).length=k
 |0=>rfl
 |k+1=>by simp[tvU,tvU_len T R l k]
theorem tvU_get(T R:Int)(l:List Sv):∀n k,k<n→(tvU T R l n)[k]?=some (tv T R (svAt l k))
 |0,k,h=>by omega
 |n+1,k,h=>by
  rw[tvU]
  by_cases e:k=n
  · subst e;rw[List.getElem?_append_right (by rw[tvU_len];omega),tvU_len];simp
  · rw[List.getElem?_append_left (by rw[tvU_len];omega)];exact tvU_get T R l n k (by omega)
theorem wls_of_owns{w:World}{B:Nat}{a:Option Addr}{cap:Nat}{T R:Int}{l:List Sv}(h:w.ownsRow B 345 1 (.slice a l.length cap) l.length (tvU T R l l.length)):WLs w a T R l:=by
 by_cases h0:l.length=0
 · exact .inl (List.length_eq_zero_iff.mp h0)
 · right
   obtain⟨g,c,hv,hb,hg⟩:=h.form (by omega);simp only[Value.slice.injEq] at hv;obtain⟨rfl,_,rfl⟩:=hv;refine⟨g,0,rfl,fun k hk=>?_⟩;rw[Nat.zero_add,h.cellAt k (by omega)];exact tvU_get T R l _ k hk
theorem takers_any(T R S C:Int)(l:List Sv)(a:Option Addr)(ca n0:Nat)(hn:n0≤l.length)(hr:arB T R S C=true)(hbef:∀j,j<n0→svB T C (svAt l j).1 (svAt l j).2.1 (svAt l j).2.2=true)(hx:n0<l.length→svE T R S C (svAt l n0).1 (svAt l n0).2.1 (svAt l n0).2.2≠0)(hl:l.length≤9)(w:World)(hv:VLs w a l):
 Calls prog 220 #[.agg #[Vi T,Vi R,Vi S,Vi C],.slice a l.length ca] w fun e w'=>((n0=l.length∧∃x cap,e=.returned (.tuple #[.slice x l.length cap,.nilIface])∧WLs w' x T R l)∨(n0<l.length∧e=.returned (.tuple #[.slice none 0 0,.iface 44 (Vi (svE T R S C (svAt l n0).1 (svAt l n0).2.1 (svAt l n0).2.2))])))∧Below w.heap.size w w':=by
 obtain⟨i0,hi,hz0,hz1,hz2⟩:=info_parts infoTaker;have HR:=Zab (RB.new w T R S C);have HA:=Zab hr;have HV:=Zab (hv.later (Zaa w (.cells #[Vi T,Vi R,Vi S,Vi C] 113)));have HBF:=Zab hbef;have HXN:=Zab hx;have hmt:=fun(lo hi:Value) (w:World)=>Zih lo hi w;clear hv hbef hx hr
 go_enter func220,ntmps220
 go_wp2;generalize w.alloc (.cells #[Vi T,Vi R,Vi S,Vi C] 113)=w2 at*
 go_loopw [6,13] (fun v ix wr=>∃(k:Nat) (ao:Option Addr) (cv:Nat),k≤n0∧ix=Vi k∧v=.slice ao k cv∧wr.ownsRow w2.heap.size 345 1 v k (tvU T R l k)∧Below w2.heap.size w2 wr) (fun _ ix _=>l.length-(intOf ix).toNat)
 case atStart=>exact⟨0,none,0,by omega,rfl,rfl,World.ownsRow_nil _ _ _ _,Below.refl _ _⟩
 case round=>
  obtain⟨k,ao,cv,hk,rfl,rfl,hown,hnx⟩:=hrel;have hsize:=hnx.size
  by_cases hlt:k<l.length
  · obtain⟨bl,ol,rfl,d0,d1,d2⟩:=(HV.out.later hnx).at hlt;obtain⟨q0,q1,q2,q3⟩:=(B4.later HR.out.1 hnx).later (Zaa wr (.cells #[Vi (svAt l k).1,Vi (svAt l k).2.1,.bool (svAt l k).2.2] 116))
    have j0:(0:Int)≤(k:Int):=by omega
    have j1:(k:Int)<(l.length:Int):=by omega
    have HN:=Zab hnx;clear hnx
    by_cases hkn:k<n0
    · have hsv:=HBF.out k hkn;have hre:=reach_ok T R S C (svAt l k).1 (svAt l k).2.1 (svAt l k).2.2 (svE_mk HA.out hsv);have HS:=Zab (show tvU T R l (k+1)=tvU T R l k++[tv T R (svAt l k)] from rfl);have HTV:=Zab (show tv T R (svAt l k)=if(svAt l k).2.2 then .iface 342 (.agg #[]) else .iface 343 (.agg #[Vi (loR T R (svAt l k).1 (svAt l k).2.2),Vi (hiR T R (svAt l k).1 (svAt l k).2.2)]) from rfl);clear hsv;generalize tvU T R l k=q at *;generalize tv T R (svAt l k)=X at *;generalize loR T R (svAt l k).1 (svAt l k).2.2=lo at *;generalize hiR T R (svAt l k).1 (svAt l k).2.2=hi' at *;generalize (svAt l k).1=i at *;generalize (svAt l k).2.1=b at *;generalize (svAt l k).2.2=o at*
      cases o
      · go_wp2_with (first
         |(go_at_call 245;refine Sb (hre _) fun w1 hb1=>?_;have HOW:=Zab (Zaz (hown.alloc _) hb1);have HN1:=Zab (Zac (Zac HN.out (Zaa _ _)) hb1);have LS:=HN1.out.size;obtain⟨z0,z1,z2⟩:=((B3.new wr (Vi i) (Vi b) (.bool false) 116).later hb1).later (Zaa w1 (.cells #[Vi lo,Vi hi'] 105));clear hb1)
         |(at_builtin;refine wpList_append_lies _ rfl _ _ 313 rfl w2.heap.size 345 i0 .nilIface 1 16 underlying313 hi hz0 hz1 hz2 rfl (by decide) _ _ _ rfl ((HOW.out.alloc _).alloc _) ⟨w1.heap.size+1,0,none⟩ 1 1 [.iface 343 (.agg #[.int .i64 lo,.int .i64 hi'])] rfl rfl (new_cell1 w1 _ _ _) (fun x hx=>by simp at hx;subst hx;rfl) (by omega) (by unfold maxLen;omega) (by omega) (by simp;omega) _ rfl ?_;intro g cap w3 hown' hgrow hat hlt3))
        go_roundw
        case rel=>
         refine⟨k+1,some (Ad g 0),cap,by omega,by go_num,rfl,?_,?_⟩
         · rw[HS.out,HTV.out];exact hown'
         · exact((HN1.out.alloc LS _).alloc (by simp;omega) _).grown hgrow (by simp;omega) (fun q hq=>(HOW.out.lt q hq).1)
        case measure=>simp[intOf];omega
      · go_wp2_with (first
         |(go_at_call 245;refine Sb (hre _) fun w1 hb1=>?_;have HOW:=Zab (Zaz (hown.alloc _) hb1);have HN1:=Zab (Zac (Zac HN.out (Zaa _ _)) hb1);have LS:=HN1.out.size;obtain⟨z0,z1,z2⟩:=((B3.new wr (Vi i) (Vi b) (.bool true) 116).later hb1).later (Zaa w1 (.cells #[Vi lo,Vi hi'] 105));clear hb1)
         |(at_builtin;refine wpList_append_lies _ rfl _ _ 313 rfl w2.heap.size 345 i0 .nilIface 1 16 underlying313 hi hz0 hz1 hz2 rfl (by decide) _ _ _ rfl ((HOW.out.alloc _).alloc _) ⟨w1.heap.size+1,0,none⟩ 1 1 [.iface 342 (.agg #[])] rfl rfl (new_cell1 w1 _ _ _) (fun x hx=>by simp at hx;subst hx;rfl) (by omega) (by unfold maxLen;omega) (by omega) (by simp;omega) _ rfl ?_;intro g cap w3 hown' hgrow hat hlt3))
        go_roundw
        case rel=>
         refine⟨k+1,some (Ad g 0),cap,by omega,by go_num,rfl,?_,?_⟩
         · rw[HS.out,HTV.out];exact hown'
         · exact((HN1.out.alloc LS _).alloc (by simp;omega) _).grown hgrow (by simp;omega) (fun q hq=>(HOW.out.lt q hq).1)
        case measure=>simp[intOf];omega
    · have e:k=n0:=by omega
      subst e;have hre:=reach_err T R S C (svAt l k).1 (svAt l k).2.1 (svAt l k).2.2 (HXN.out hlt);clear hown;obtain⟨x,HXE⟩:∃x,Hid (svE T R S C (svAt l k).1 (svAt l k).2.1 (svAt l k).2.2=x):=⟨_,rfl⟩;rw[HXE.out] at hre
      go_wp2_with (go_at_call 245;refine Sb (hre _) fun w1 hb1=>?_;have HN1:=Zab (Zac (Zac HN.out (Zaa _ _)) hb1);clear hb1);go_ret2;exact⟨.inr ⟨hlt,by rw[HXE.out];rfl⟩,Zac HR.out.2 (Zac HN1.out (Zaa _ _))⟩
  · have e:k=l.length:=by omega
    have e2:n0=l.length:=by omega
    subst e;have HW:=Zab (wls_of_owns hown);have HN:=Zab hnx;clear hown hnx;go_wp2;go_ret2;exact⟨.inl ⟨e2,_,_,rfl,HW.out⟩,Zac HR.out.2 HN.out⟩
theorem infoHe:(prog.info? 128).map (fun i=>(i.zero,i.size,i.bytes))=some (some (.agg #[Vi 0,Vi 0,Vi 0]),3,24):=by kernel_rfl
theorem h3new(w1:World)(X Y Z:Value)(t:TypeId):∀j u,[X,Y,Z][j]?=some u→(w1.alloc (.cells #[X,Y,Z] t)).cell? ((⟨w1.heap.size,0,none⟩:Addr).add j)=some u:=by
 intro j u hu
 match j with
 |0=>simp at hu;subst hu;simp[go_sem,Addr.add]
 |1=>simp at hu;subst hu;simp[go_sem,Addr.add]
 |2=>simp at hu;subst hu;simp[go_sem,Addr.add]
 |j+3=>simp at hu
theorem hls_two{w:World}{B g cap:Nat}{e:TypeId}{x0 y0 z0 x1 y1 z1:Int}(h:w.ownsRow B e 3 (.slice (some (Ad g 0)) 2 cap) 2 [Vi x0,Vi y0,Vi z0,Vi x1,Vi y1,Vi z1]):HLs w (some (Ad g 0)) [(x0,y0,z0),(x1,y1,z1)]:=by
 refine .inr ⟨g,0,rfl,fun k hk=>?_⟩;have hk:k<2:=hk
 rcases(show k=0∨k=1 by omega) with rfl|rfl
 · exact⟨h.cellAt 0 (by omega),h.cellAt 1 (by omega),h.cellAt 2 (by omega)⟩
 · exact⟨h.cellAt 3 (by omega),h.cellAt 4 (by omega),h.cellAt 5 (by omega)⟩
def heM(C:CR)(S:FS)(sv:Nat→List Sv)(i:Nat):He:=(Zdi (S.bk i).o 3,sndU (sv i) (sv i).length,C.a i 4)
def lwM(C:CR)(S:FS)(l:List Rd)(sv:Nat→List Sv):Int:=neI S.n (waI [heM C S sv 0,heM C S sv 1]) (decide ((smp l 40 3).2=1))
theorem weU_two{x y:He}(h0:heE x.1 x.2.1 x.2.2=0)(h1:heE y.1 y.2.1 y.2.2=0):weU [x,y] 2=0:=by
 have a:weU [x,y] 1=0:=by rw[weU_step];simpa[weU,heAt] using h0
 rw[weU_step,if_pos a];exact h1
theorem lawI_bd(c s n:Int):0≤lawI c s n∧lawI c s n≤3:=by
 unfold lawI;split<;>(try split)<;>(try split)<;>(try split)<;>omega
theorem waI_two{x y:He}(h0:heE x.1 x.2.1 x.2.2=0)(h1:heE y.1 y.2.1 y.2.2=0):waI [x,y]=mxL (mxL 0 (lawI x.1 x.2.1 x.2.2)) (lawI y.1 y.2.1 y.2.2):=by
 unfold waI
 rw[if_pos (by exact weU_two h0 h1)]
 rfl
theorem waI_bd{x y:He}(h0:heE x.1 x.2.1 x.2.2=0)(h1:heE y.1 y.2.1 y.2.2=0):betw (waI [x,y]) 0 3=true:=by
 rw[waI_two h0 h1];have a:=lawI_bd x.1 x.2.1 x.2.2;have b:=lawI_bd y.1 y.2.1 y.2.2
 unfold mxL
 simp only[betw,Bool.and_eq_true,decide_eq_true_eq]
 split<;>(try split)<;>omega
theorem chooseLaw_ok{K:Nat}{wz w:World}{B:Nat}{S:FS}{C:CR}{a:Option Addr}{cap:Nat}{l:List Rd}{sv:Nat→List Sv}{G:Nat→Nat}(hf:FR K wz w B S C a cap l sv G)(hl:∀i,i<2→(sv i).length≤9)
 (h0:heE (heM C S sv 0).1 (heM C S sv 0).2.1 (heM C S sv 0).2.2=0) (h1:heE (heM C S sv 1).1 (heM C S sv 1).2.1 (heM C S sv 1).2.2=0) (hn:betw S.n 0 3=true):
 Calls prog 60 #[.pointer (some (Ad B 0))] w fun e w'=>e=.returned .nilIface∧FR K wz w' B ({ S with n:=lwM C S l sv }:FS) C a cap l sv G:=by
 obtain⟨i0,hi,hz0,hz1,hz2⟩:=info_parts infoHe;have hh:=fun u (h:Below w.heap.size w u) i hi=>health_ok (hf.later h) i hi (hl i hi);have hh0:=fun u h=>hh u h 0 (by omega);have hh1:=fun u h=>hh u h 1 (by omega);have hsy:=fun u (h:Below w.heap.size w u)=>Zhh B a cap l 40 3 hf.many u (cell_later h hf.said) (hf.rds.later h);have hwt:=wanted_any [heM C S sv 0,heM C S sv 1];simp only[weU_two h0 h1,show[heM C S sv 0,heM C S sv 1].length=2 from rfl,Zar] at hwt;have hb:=waI_bd h0 h1;have hnx:=next_any S.n (waI [heM C S sv 0,heM C S sv 1]) (decide ((smp l 40 3).2=1))
 have hne:neE S.n (waI [heM C S sv 0,heM C S sv 1])=0:=by unfold neE;rw[hn,hb];rfl
 simp only[hne,Zar] at hnx;have HF:=Zab hf;have hlw:=(hf.blk.cell (fr_law S C _)).1;have HL:Hid (neI S.n (waI [heM C S sv 0,heM C S sv 1]) (decide ((smp l 40 3).2=1))=lwM C S l sv):=Zab rfl;rw[HL.out] at hnx;generalize lwM C S l sv=nl at *;generalize waI [heM C S sv 0,heM C S sv 1]=wl at *;have HB0:=Zab (Below.refl w.heap.size w);simp only[heM] at hwt;generalize Zdi (S.bk 0).o 3=p0 at *;generalize Zdi (S.bk 1).o 3=p1 at *;generalize sndU (sv 0) (sv 0).length=q0 at *;generalize sndU (sv 1) (sv 1).length=q1 at *;have hfi:=field_is;clear hf h0 h1 hn hl hh hb hne HL
 go_enter func60,ntmps60
 go_upto_region 3 with fail;refine wp_loop_rounds 3 ?_;rw[rounds_succ]
 go_wp2_with (first
  |(go_at_call 109;refine Sb (hh0 _ HB0.out) fun u0 hb=>?_;have HB0:=Zab (Zac HB0.out hb);clear hb)
  |(at_builtin;refine wpList_append_lies _ rfl _ _ 208 rfl w.heap.size 128 i0 (.agg #[.int .i64 0,.int .i64 0,.int .i64 0]) 3 24 underlying208 hi hz0 hz1 hz2 rfl (by decide) _ _ _ rfl (World.ownsRow_nil _ _ _ _) ⟨u0.heap.size,0,none⟩ 1 1 [.int .i64 p0,.int .i64 q0,.int .i64 (C.a 0 4)] rfl rfl (h3new u0 _ _ _ _) (fun x hx=>by simp at hx;rcases hx with rfl|rfl|rfl<;>rfl) (by omega) (by unfold maxLen;omega) (by omega) (Zac HB0.out (Zaa _ _)).size _ rfl ?_;intro g0 c0 v0 hown hgrow hat hlt;have HO0:=Zab hown;have HV0:=Zab ((Zac HB0.out (Zaa _ _)).grown hgrow (Zac HB0.out (Zaa _ _)).size (fun q hq=>by cases hq));clear hown hgrow hat hlt HB0))
 rw[rounds_succ]
 go_wp2_with (first
  |(go_at_call 109;refine Sb (hh1 _ HV0.out) fun u1 hb=>?_;have HB1:=Zab (Zac HV0.out hb);have HO0:=Zab (Zaz HO0.out hb);clear hb HV0)
  |(at_builtin;refine wpList_append_lies _ rfl _ _ 208 rfl w.heap.size 128 i0 (.agg #[.int .i64 0,.int .i64 0,.int .i64 0]) 3 24 underlying208 hi hz0 hz1 hz2 rfl (by decide) _ _ _ rfl (HO0.out.alloc _) ⟨u1.heap.size,0,none⟩ 1 1 [.int .i64 p1,.int .i64 q1,.int .i64 (C.a 1 4)] rfl rfl (h3new u1 _ _ _ _) (fun x hx=>by simp at hx;rcases hx with rfl|rfl|rfl<;>rfl) (by omega) (by unfold maxLen;omega) (by omega) (Zac HB1.out (Zaa _ _)).size _ rfl ?_;intro g1 c1 v1 hown hgrow hat hlt;have HO1:=Zab hown;have HV1:=Zab ((Zac HB1.out (Zaa _ _)).grown hgrow (Zac HB1.out (Zaa _ _)).size (fun q hq=>(HO0.out.lt q hq).1));clear hown hgrow hat hlt HB1))
 rw[rounds_succ];have HLS:=Zab (hls_two HO1.out)
 go_wp2_with (first
  |(go_at_call 110;refine Sb (hwt _ _ (by omega) _ HLS.out) fun u2 hb=>?_;have HV2:=Zab (Zac HV1.out hb);clear hb HV1 HLS)
  |(go_at_call 107;refine Sb (hsy _ HV2.out) fun u3 hb=>?_;have HV3:=Zab (Zac HV2.out hb);clear hb HV2;have hl3:=cell_later HV3.out hlw)
  |(go_at_call 111;refine Sb (hnx _) fun u4 hb=>?_;have HV4:=Zab (Zac HV3.out hb);clear hb HV3;have HF4:=Zab (HF.out.later HV4.out);have hl4:=(HF4.out.blk.cell (fr_law S C _)).1;have hf4:=(HF4.out.blk.cell (fr_law S C _)).2))
 go_ret;exact⟨rfl,HF4.out.put _ [Vi nl] 29 (fr_putLaw S C _ nl) ⟨rfl,rfl⟩⟩
end Go.Proofs.YtnfdfiholcelaaaGreatDoor
namespace Go.Proofs.YtnfdfiholcelaaaGreatDoor
open Go.Shelf Go.RowKit Go.Sort Plain Tryz
def searchL_ren:Go.Shelf.Ren:=⟨fun|16=>246|n=>n,fun|3=>3|4=>4|35=>266|38=>229|n=>n,fun n=>n⟩
theorem searchL:Go.Proofs.SlLaysO.n16 prog searchL_ren:={
 mixed:=by kernel_rfl
 f16:=func246.trans (congrArg some (by kernel_rfl))
 t3:=underlying3
 a3:=Tryz.isAgg3
 z3:=Tryz.sizeOf3
 v3:=Tryz.zeroValue3
 t4:=underlying4
 a4:=Tryz.isAgg4
 z4:=Tryz.sizeOf4
 v4:=Tryz.zeroValue4
 t35:=underlying266
 a35:=Tryz.isAgg266
 z35:=Tryz.sizeOf266
 v35:=Tryz.zeroValue266
 t38:=underlying229
 a38:=Tryz.isAgg229
 z38:=Tryz.sizeOf229
 v38:=Tryz.zeroValue229
}
theorem search_any(g:Nat)(cb:Array Value)(n:Nat)(p:Nat→Bool)(w:World)(eg:∀args w,(callFunc g args).run prog w=.ok (.enter g args) w)(hsz:n<4611686018427387904)
 (hf:∀(m:Nat) (os:Array Obj) (i:Nat),i<n→Calls prog g (#[Vi i]++cb) (grow (w.drewN m) os) fun e w'=>e=.returned (.bool (p i))∧∃q os',w'=grow ((grow (w.drewN m) os).drewN q) os')
 (hmono:∀a b,a≤b→b<n→p a=true→p b=true):
 Calls prog 246 #[Vi n,.func (.func g) #[] cb] w fun e w'=>e=.returned (Vi ((List.range n).countP (fun i=>!p i):Nat))∧∃q os,w'=grow (w.drewN q) os:=
 Any.sort_Search searchL g cb n p w eg hsz hf hmono
end Go.Proofs.YtnfdfiholcelaaaGreatDoor
namespace Go.Proofs.YtnfdfiholcelaaaGreatDoor
open Go.RowKit Go.Sort Plain Tryz
theorem Zht(L H N P M R lo hi room:Int)(p0:0≤P)(p1:P≤2000)(r0:1≤R)(r1:R≤4000)(s0:-4000≤lo)(s1:hi≤4000)(hlh:lo≤hi)(w:World):
 Calls prog 145 #[.agg #[Vi L,Vi H,Vi N,Vi P,Vi M,Vi R],Vi lo,Vi hi,Vi room] w fun e w'=>(∃h,e=.returned (Vi h)∧IsHi R P lo hi room h)∧Below w.heap.size w w':=by
 have HX:=Zab (GB.new w L H N P M R)
 go_enter func145,ntmps145
 go_wp2;generalize w.alloc (.cells #[Vi L,Vi H,Vi N,Vi P,Vi M,Vi R] 99)=w1 at*
 go_loopw [2] (fun u wr=>∃h:Int,u=Vi h∧lo≤h∧h≤hi∧Hid (∀s,h<s→s≤hi→room<bk R (s+P))∧GB w wr L H N P M R) (fun u _=>(intOf u+4000).toNat)
 case atStart=>exact⟨hi,rfl,hlh,Int.le_refl _,Zab (fun s h1 h2=>by omega),HX.out⟩
 case round=>
  clear HX;obtain⟨h,rfl,h0,h1,hs,hX⟩:=hrel;rename World=>wr;have HX:=Zab hX;obtain⟨⟨q0,q1,q2,q3,q4,q5⟩,_⟩:=hX;have hbr:=fun w=>(Zfn L H N P M R h p0 p1 r0 r1 (by omega) (by omega) w).mono (fun e w' h=>(⟨h.1,by rw[h.2];exact Zaa _ _⟩:e=_∧Below w.heap.size w w'))
  by_cases c1:lo<h
  · by_cases c2:room<bk R (h+P)
    · have hs':Hid (∀s,h-1<s→s≤hi→room<bk R (s+P)):=by
       apply Zab;intro s a b
       by_cases e:s=h
       · rw[e];exact c2
       · exact hs.out s (by omega) b
      generalize bk R (h+P)=k at*
      go_wp2_with (go_at_call 39;refine Sb (hbr _) fun w2 hb2=>?_);go_roundw
      case rel=>exact⟨h-1,rfl,by omega,by omega,hs',HX.out.later hb2⟩
      case measure=>simp[intOf];omega
    · have hh:Hid (IsHi R P lo hi room h):=Zab ⟨h0,h1,Or.inr (by omega),hs.out⟩;generalize bk R (h+P)=k at*
      go_wp2_with (go_at_call 39;refine Sb (hbr _) fun w2 hb2=>?_);go_ret;exact⟨⟨_,rfl,hh.out⟩,(HX.out.later hb2).2⟩
  · have hh:Hid (IsHi R P lo hi room h):=Zab ⟨h0,h1,Or.inl (by omega),hs.out⟩;go_wp2_with fail;go_ret;exact⟨⟨_,rfl,hh.out⟩,HX.out.2⟩
theorem keepG7{w u u':World}{L H N P M R x:Int}(hb:Gro u u')(h:(u.cell? (Ad w.heap.size 0)=some (Vi L)∧u.cell? (Ad w.heap.size 1)=some (Vi H)∧u.cell? (Ad w.heap.size 2)=some (Vi N)∧u.cell? (Ad w.heap.size 3)=some (Vi P)∧u.cell? (Ad w.heap.size 4)=some (Vi M)∧u.cell? (Ad w.heap.size 5)=some (Vi R)∧u.cell? (Ad w.heap.size 6)=some (Vi x))∧Gro w u):(u'.cell? (Ad w.heap.size 0)=some (Vi L)∧u'.cell? (Ad w.heap.size 1)=some (Vi H)∧u'.cell? (Ad w.heap.size 2)=some (Vi N)∧u'.cell? (Ad w.heap.size 3)=some (Vi P)∧u'.cell? (Ad w.heap.size 4)=some (Vi M)∧u'.cell? (Ad w.heap.size 5)=some (Vi R)∧u'.cell? (Ad w.heap.size 6)=some (Vi x))∧Gro w u':=
 ⟨⟨Zak hb.below h.1.1,Zak hb.below h.1.2.1,Zak hb.below h.1.2.2.1,Zak hb.below h.1.2.2.2.1,Zak hb.below h.1.2.2.2.2.1,Zak hb.below h.1.2.2.2.2.2.1,Zak hb.below h.1.2.2.2.2.2.2⟩,h.2.trans hb⟩
theorem newG7(w:World)(L H N P M R x:Int)(t:TypeId):(fun u=>(u.cell? (Ad w.heap.size 0)=some (Vi L)∧u.cell? (Ad w.heap.size 1)=some (Vi H)∧u.cell? (Ad w.heap.size 2)=some (Vi N)∧u.cell? (Ad w.heap.size 3)=some (Vi P)∧u.cell? (Ad w.heap.size 4)=some (Vi M)∧u.cell? (Ad w.heap.size 5)=some (Vi R)∧u.cell? (Ad w.heap.size 6)=some (Vi x))∧Gro w u) (w.alloc (.cells #[Vi L,Vi H,Vi N,Vi P,Vi M,Vi R,Vi x] t)):=by
 refine⟨⟨?_,?_,?_,?_,?_,?_,?_⟩,(Gro.refl w).alloc _⟩<;>simp[go_sem]
theorem stopsHi_any(L H N P M R x:Int)(g:GR L H N P M R)(x0:-2000000≤x)(x1:x≤2000000)(s:Int)(s0:-4000≤s)(s1:s≤4000)(w:World):
 Calls prog 244 #[.agg #[Vi L,Vi H,Vi N,Vi P,Vi M,Vi R,Vi x],Vi s] w fun e w'=>e=.returned (.bool (decide (bk R (s+P)≤H-N-x)))∧Gro w w':=by
 obtain⟨l0,l1,h0,h1,n0,n1,p0,p1,m0,m1,r0,r1⟩:=g;have hbr:=fun w=>(brake_ex L H N P M R s p0 p1 r0 (by omega) s0 s1 w).mono (fun e w' h=>(⟨h.1,by rw[h.2];exact(Gro.refl _).alloc _⟩:e=_∧Gro w w'));have hk:=bk_lt (R:=R) (f:=s+P) (by omega) (by omega);have hk0:=Zbs R (s+P);generalize bk R (s+P)=k at *;have v1:=Wr (x+N);have v2:=Wr (x+N+k);have HD:Hid (decide (x+N+k≤H)=decide (k≤H-N-x)):=Zab (decide_eq_decide.mpr (by omega));have HX:=Zab (newG7 w L H N P M R x 337)
 go_enter func244,ntmps244
 go_upto_region 1 with fail;generalize w.alloc (.cells #[Vi L,Vi H,Vi N,Vi P,Vi M,Vi R,Vi x] 337)=w1 at *;have S0:(w1.cell? (Ad w.heap.size 0)=some (Vi L)∧w1.cell? (Ad w.heap.size 1)=some (Vi H)∧w1.cell? (Ad w.heap.size 2)=some (Vi N)∧w1.cell? (Ad w.heap.size 3)=some (Vi P)∧w1.cell? (Ad w.heap.size 4)=some (Vi M)∧w1.cell? (Ad w.heap.size 5)=some (Vi R)∧w1.cell? (Ad w.heap.size 6)=some (Vi x))∧Gro w w1:=HX.out;have Z:=Zab S0;obtain⟨⟨q0,q1,q2,q3,q4,q5,q6⟩,_⟩:=HX.out
 go_region_held3 (fun u=>(u.cell? (Ad w.heap.size 0)=some (Vi L)∧u.cell? (Ad w.heap.size 1)=some (Vi H)∧u.cell? (Ad w.heap.size 2)=some (Vi N)∧u.cell? (Ad w.heap.size 3)=some (Vi P)∧u.cell? (Ad w.heap.size 4)=some (Vi M)∧u.cell? (Ad w.heap.size 5)=some (Vi R)∧u.cell? (Ad w.heap.size 6)=some (Vi x))∧Gro w u)
  (first
   |(with_reducible assumption)
   |(with_reducible apply keepG7;with_reducible assumption;with_reducible assumption)
   |(refine keepG7 ?_ Z.out;exact(Gro.refl _).drew))
  (first
   |(go_at_call 227;refine Sb (hbr _) fun w' hb=>?_))
 all_goals
  rename_i hH
  have HB:=Zab hH.2;clear hH;go_wp2_with fail;go_ret;exact⟨by rw[←HD.out];rfl,HB.out⟩
theorem stopsLo_any(L H N P M R x:Int)(g:GR L H N P M R)(x0:-2000000≤x)(x1:x≤2000000)(s:Int)(s0:-4000≤s)(s1:s≤4000)(w:World):
 Calls prog 243 #[.agg #[Vi L,Vi H,Vi N,Vi P,Vi M,Vi R,Vi x],Vi s] w fun e w'=>e=.returned (.bool (decide (bk R (s+P)≤x-N-L)))∧Gro w w':=by
 obtain⟨l0,l1,h0,h1,n0,n1,p0,p1,m0,m1,r0,r1⟩:=g;have hbr:=fun w=>(brake_ex L H N P M R s p0 p1 r0 (by omega) s0 s1 w).mono (fun e w' h=>(⟨h.1,by rw[h.2];exact(Gro.refl _).alloc _⟩:e=_∧Gro w w'));have hk:=bk_lt (R:=R) (f:=s+P) (by omega) (by omega);have hk0:=Zbs R (s+P);generalize bk R (s+P)=k at *;have v1:=Wr (x-N);have v2:=Wr (x-N-k);have HD:Hid (decide (L≤x-N-k)=decide (k≤x-N-L)):=Zab (decide_eq_decide.mpr (by omega));have HX:=Zab (newG7 w L H N P M R x 337)
 go_enter func243,ntmps243
 go_upto_region 1 with fail;generalize w.alloc (.cells #[Vi L,Vi H,Vi N,Vi P,Vi M,Vi R,Vi x] 337)=w1 at *;have S0:(w1.cell? (Ad w.heap.size 0)=some (Vi L)∧w1.cell? (Ad w.heap.size 1)=some (Vi H)∧w1.cell? (Ad w.heap.size 2)=some (Vi N)∧w1.cell? (Ad w.heap.size 3)=some (Vi P)∧w1.cell? (Ad w.heap.size 4)=some (Vi M)∧w1.cell? (Ad w.heap.size 5)=some (Vi R)∧w1.cell? (Ad w.heap.size 6)=some (Vi x))∧Gro w w1:=HX.out;have Z:=Zab S0;obtain⟨⟨q0,q1,q2,q3,q4,q5,q6⟩,_⟩:=HX.out
 go_region_held3 (fun u=>(u.cell? (Ad w.heap.size 0)=some (Vi L)∧u.cell? (Ad w.heap.size 1)=some (Vi H)∧u.cell? (Ad w.heap.size 2)=some (Vi N)∧u.cell? (Ad w.heap.size 3)=some (Vi P)∧u.cell? (Ad w.heap.size 4)=some (Vi M)∧u.cell? (Ad w.heap.size 5)=some (Vi R)∧u.cell? (Ad w.heap.size 6)=some (Vi x))∧Gro w u)
  (first
   |(with_reducible assumption)
   |(with_reducible apply keepG7;with_reducible assumption;with_reducible assumption)
   |(refine keepG7 ?_ Z.out;exact(Gro.refl _).drew))
  (first
   |(go_at_call 227;refine Sb (hbr _) fun w' hb=>?_))
 all_goals
  rename_i hH
  have HB:=Zab hH.2;clear hH;go_wp2_with fail;go_ret;exact⟨by rw[←HD.out];rfl,HB.out⟩
theorem asks_any(g A B C:Nat)(L H N P M R x lo:Int)(i:Nat)(b:Bool)(W:World)(lo0:-4000≤lo)(lo1:lo+(i:Int)≤4000)
 (eg:∀args w,(callFunc g args).run prog w=.ok (.enter g args) w)
 (hg:∀w,Calls prog g #[.agg #[Vi L,Vi H,Vi N,Vi P,Vi M,Vi R,Vi x],Vi (lo+(i:Int))] w fun e w'=>e=.returned (.bool b)∧Gro w w')
 (hf:W.cell? (Ad A 0)=some (.func (.func g) #[] #[])) (ha:(W.cell? (Ad B 0)=some (Vi L)∧W.cell? (Ad B 1)=some (Vi H)∧W.cell? (Ad B 2)=some (Vi N)∧W.cell? (Ad B 3)=some (Vi P)∧W.cell? (Ad B 4)=some (Vi M)∧W.cell? (Ad B 5)=some (Vi R)∧W.cell? (Ad B 6)=some (Vi x))) (hl:W.cell? (Ad C 0)=some (Vi lo)):
 Calls prog 264 (#[Vi (i:Int)]++#[.pointer (some (Ad A 0)),.pointer (some (Ad B 0)),.pointer (some (Ad C 0))]) W fun e w'=>e=.returned (.bool (!b))∧Gro W w':=by
 obtain⟨a0,a1,a2,a3,a4,a5,a6⟩:=ha
 have hi:(0:Int)≤(i:Int):=by omega
 go_enter func264,ntmps264
 go_wp2_with (go_at_fn g;refine Sb (hg _) fun w' hb=>?_);go_ret;exact⟨rfl,hb⟩
theorem run_maxG(ts:Array TypeId)(t:TypeId)(p q:Int)(w:World):(Builtin.max_ ts t #[Vi p,Vi q]).run prog w=.ok (Vi (if p<q then q else p)) w:=by
 by_cases h:p<q
 · simp[Builtin.max_,Builtin.max2,h]
 · simp[Builtin.max_,Builtin.max2,h]
theorem run_minG(ts:Array TypeId)(t:TypeId)(p q:Int)(w:World):(Builtin.min_ ts t #[Vi p,Vi q]).run prog w=.ok (Vi (if q<p then q else p)) w:=by
 by_cases h:q<p
 · simp[Builtin.min_,Builtin.min2,h]
 · simp[Builtin.min_,Builtin.min2,h]
theorem gnew1(W:World)(v:Value)(t:TypeId):(W.alloc (.cells #[v] t)).cell? (Ad W.heap.size 0)=some v:=by simp[go_sem]
theorem highest_any(g:Nat)(L H N P M R x lo hi room:Int)(r0:1≤R)(s0:-4000≤lo)(s1:hi≤4000)(hlh:lo≤hi)
 (eg:∀args w,(callFunc g args).run prog w=.ok (.enter g args) w)
 (hg:∀s,-4000≤s→s≤4000→∀w,Calls prog g #[.agg #[Vi L,Vi H,Vi N,Vi P,Vi M,Vi R,Vi x],Vi s] w fun e w'=>e=.returned (.bool (decide (bk R (s+P)≤room)))∧Gro w w') (w:World):
 Calls prog 242 #[.agg #[Vi L,Vi H,Vi N,Vi P,Vi M,Vi R,Vi x],Vi lo,Vi hi,.func (.func g) #[] #[]] w fun e w'=>(∃h,e=.returned (Vi h)∧IsHi R P lo hi room h)∧Below w.heap.size w w':=by
 obtain⟨n,hn⟩:∃n:Nat,(n:Int)=hi-lo+1:=⟨(hi-lo+1).toNat,by omega⟩;obtain⟨W0,hW0⟩:∃W0,W0=((w.alloc (.cells #[Vi L,Vi H,Vi N,Vi P,Vi M,Vi R,Vi x] 337)).alloc (.cells #[Vi lo] 3)).alloc (.cells #[.func (.func g) #[] #[]] 339):=⟨_,rfl⟩
 have gro:Gro w W0:=by rw[hW0];exact(((Gro.refl w).alloc _).alloc _).alloc _
 have sz:W0.heap.size=w.heap.size+1+1+1:=by rw[hW0];simp
 have ca:(W0.cell? (Ad w.heap.size 0)=some (Vi L)∧W0.cell? (Ad w.heap.size 1)=some (Vi H)∧W0.cell? (Ad w.heap.size 2)=some (Vi N)∧W0.cell? (Ad w.heap.size 3)=some (Vi P)∧W0.cell? (Ad w.heap.size 4)=some (Vi M)∧W0.cell? (Ad w.heap.size 5)=some (Vi R)∧W0.cell? (Ad w.heap.size 6)=some (Vi x)):=by
  have:=(keepG7 (((Gro.refl _).alloc (.cells #[Vi lo] 3)).alloc (.cells #[.func (.func g) #[] #[]] 339)) (newG7 w L H N P M R x 337)).1;rw[←hW0] at this;exact this
 have cl:W0.cell? (Ad (w.heap.size+1) 0)=some (Vi lo):=by
  have h:=gnew1 (w.alloc (.cells #[Vi L,Vi H,Vi N,Vi P,Vi M,Vi R,Vi x] 337)) (Vi lo) 3;rw[World.size_alloc] at h;rw[hW0];exact Zak (Zaa _ _) h
 have cf:W0.cell? (Ad (w.heap.size+1+1) 0)=some (.func (.func g) #[] #[]):=by
  have h:=gnew1 ((w.alloc (.cells #[Vi L,Vi H,Vi N,Vi P,Vi M,Vi R,Vi x] 337)).alloc (.cells #[Vi lo] 3)) (.func (.func g) #[] #[]) 339;rw[World.size_alloc,World.size_alloc] at h;rw[hW0];exact h
 have ec:∀args w,(callFunc 264 args).run prog w=.ok (.enter 264 args) w:=enters_of func264 (by kernel_rfl) rfl;have hS:=search_any 264 #[.pointer (some (Ad (w.heap.size+1+1) 0)),.pointer (some (Ad w.heap.size 0)),.pointer (some (Ad (w.heap.size+1) 0))] n (fun i=>!decide (bk R (lo+(i:Int)+P)≤room)) W0 ec (by omega)
  (fun m os i hi=>by
   have k:Gro W0 (grow (W0.drewN m) os):=⟨m,os,rfl⟩
   exact(asks_any g _ _ _ L H N P M R x lo i _ _ s0 (by omega) eg (hg _ (by omega) (by omega)) (Zak k.below cf) (keepG7 (w:=w) k ⟨ca,gro⟩).1 (Zak k.below cl)))
  (fun a b hab hb h=>by
   have m:=Zge (R:=R) (f:=lo+(a:Int)+P) (g:=lo+(b:Int)+P) (by omega) (by omega)
   simp at h⊢;omega)
 have H0:Hid (IsHi R P lo hi room (lo+(if((List.range n).countP (fun i:Nat=>decide (bk R (lo+(i:Int)+P)≤room)):Int)-1≤0 then 0 else((List.range n).countP (fun i:Nat=>decide (bk R (lo+(i:Int)+P)≤room)):Int)-1))):=Zab (isHi_count r0 (by omega) hlh)
 have hc:(List.range n).countP (fun i:Nat=>decide (bk R (lo+(i:Int)+P)≤room))≤n:=by
  have:=List.countP_le_length (p:=fun i:Nat=>decide (bk R (lo+(i:Int)+P)≤room)) (l:=List.range n)
  simpa using this
 simp only[Bool.not_not] at hS;generalize (List.range n).countP (fun i:Nat=>decide (bk R (lo+(i:Int)+P)≤room))=c at *;rw[hn] at hS;have x2:=fun ts t p q w=>run_maxG ts t p q w
 have hcz:(0:Int)≤(c:Int):=by omega
 have hcn:(c:Int)≤8001:=by omega
 have HG:=Zab gro.below;have CL:=Zab cl;clear gro sz ca cl cf ec hg hc eg
 by_cases hc0:(c:Int)-1<0
 · have H1:Hid (IsHi R P lo hi room lo):=by
    have:=H0.out;rw[if_pos (by omega),Int.add_zero] at this;exact Zab this
   clear H0
   go_enter func242,ntmps242
   go_wp2_with (go_at_call 246;rw[←hW0];refine hS.mono ?_;rintro e w' ⟨rfl,q,os,hq⟩;have HW:Hid (Gro W0 w'):=Zab ⟨q,os,hq⟩;have q1:w'.cell? (Ad (w.heap.size+1) 0)=some (Vi lo):=Zak HW.out.below CL.out;clear hq);go_ret;exact⟨⟨_,rfl,H1.out⟩,Zac HG.out HW.out.below⟩
 · have H1:Hid (IsHi R P lo hi room (lo+((c:Int)-1))):=by
    have:=H0.out
    by_cases e:(c:Int)-1≤0
    · rw[if_pos e] at this;rw[show(c:Int)-1=0 by omega];exact Zab this
    · rw[if_neg e] at this;exact Zab this
   clear H0
   go_enter func242,ntmps242
   go_wp2_with (go_at_call 246;rw[←hW0];refine hS.mono ?_;rintro e w' ⟨rfl,q,os,hq⟩;have HW:Hid (Gro W0 w'):=Zab ⟨q,os,hq⟩;have q1:w'.cell? (Ad (w.heap.size+1) 0)=some (Vi lo):=Zak HW.out.below CL.out;clear hq);go_ret;exact⟨⟨_,rfl,H1.out⟩,Zac HG.out HW.out.below⟩
end Go.Proofs.YtnfdfiholcelaaaGreatDoor
