
import Derived.Test.YtnfdfiholcelaaaGreatDoorJh00
import Derived.Test.YtnfdfiholcelaaaGreatDoorJh01
import Derived.Test.YtnfdfiholcelaaaGreatDoorJh08
import Derived.Test.YtnfdfiholcelaaaGreatDoorJh11
import Derived.Test.YtnfdfiholcelaaaGreatDoorJh14
set_option maxRecDepth 100000
set_option maxHeartbeats 20000000
namespace Go.Proofs.YtnfdfiholcelaaaGreatDoor
open Go.RowKit Plain Tryz
def VLs(w:World)(a:Option Addr)(l:List Sv):Prop:=l=[]∨∃b off,a=some (Ad b off)∧∀k,k<l.length→w.cell? (Ad b (off+k*3))=some (Vi (svAt l k).1)∧w.cell? (Ad b (off+k*3+1))=some (Vi (svAt l k).2.1)∧w.cell? (Ad b (off+k*3+2))=some (.bool (svAt l k).2.2)
theorem VLs.later{w w':World}{a:Option Addr}{l:List Sv}(h:VLs w a l)(hb:Below w.heap.size w w'):VLs w' a l:=by
 rcases h with h|⟨b,off,h,hc⟩
 · exact .inl h
 · exact .inr ⟨b,off,h,fun k hk=>⟨cell_later hb (hc k hk).1,cell_later hb (hc k hk).2.1,cell_later hb (hc k hk).2.2⟩⟩
theorem VLs.at{w:World}{a:Option Addr}{l:List Sv}(h:VLs w a l){k:Nat}(hk:k<l.length):∃b off,a=some (Ad b off)∧w.cell? (Ad b (off+k*3))=some (Vi (svAt l k).1)∧w.cell? (Ad b (off+k*3+1))=some (Vi (svAt l k).2.1)∧w.cell? (Ad b (off+k*3+2))=some (.bool (svAt l k).2.2):=by
 rcases h with h|⟨b,off,h,hc⟩
 · subst h;simp at hk
 · exact⟨b,off,h,hc k hk⟩
theorem keepQ{w u u':World}{bl ol k:Nat}{T R S C i b:Int}{o:Bool}(hb:Below u.heap.size u u')(h:(u.cell? (Ad w.heap.size 0)=some (Vi T)∧u.cell? (Ad w.heap.size 1)=some (Vi R)∧u.cell? (Ad w.heap.size 2)=some (Vi S)∧u.cell? (Ad w.heap.size 3)=some (Vi C))∧(u.cell? (Ad bl (ol+k*3))=some (Vi i)∧u.cell? (Ad bl (ol+k*3+1))=some (Vi b)∧u.cell? (Ad bl (ol+k*3+2))=some (.bool o))∧Below w.heap.size w u):(u'.cell? (Ad w.heap.size 0)=some (Vi T)∧u'.cell? (Ad w.heap.size 1)=some (Vi R)∧u'.cell? (Ad w.heap.size 2)=some (Vi S)∧u'.cell? (Ad w.heap.size 3)=some (Vi C))∧(u'.cell? (Ad bl (ol+k*3))=some (Vi i)∧u'.cell? (Ad bl (ol+k*3+1))=some (Vi b)∧u'.cell? (Ad bl (ol+k*3+2))=some (.bool o))∧Below w.heap.size w u':=
 ⟨B4.later h.1 hb,⟨cell_later hb h.2.1.1,cell_later hb h.2.1.2.1,cell_later hb h.2.1.2.2⟩,Zac h.2.2 hb⟩
def RB(w0 w:World)(T R S C:Int):Prop:=B4 w w0.heap.size (Vi T) (Vi R) (Vi S) (Vi C)∧Below w0.heap.size w0 w
theorem RB.later{w0 w w':World}{T R S C:Int}(h:RB w0 w T R S C)(hb:Below w.heap.size w w'):RB w0 w' T R S C:=⟨h.1.later hb,Zac h.2 hb⟩
theorem RB.new(w:World)(T R S C:Int):RB w (w.alloc (.cells #[Vi T,Vi R,Vi S,Vi C] 113)) T R S C:=⟨B4.new _ _ _ _ _ _,Zaa _ _⟩
theorem total_any(T R S C:Int)(l:List Sv)(v:Int)(a:Option Addr)(cap:Nat)(hok:AllOk T R S C l)(hl:l.length≤9)(w:World)(hv:VLs w a l):
 Calls prog 146 #[.agg #[Vi T,Vi R,Vi S,Vi C],.slice a l.length cap,Vi v] w fun e w'=>e=.returned (Vi (tot T R l v))∧Below w.heap.size w w':=by
 have HV:=Zab hv;have HOK:=Zab hok;have HR:=Zab (RB.new w T R S C);clear hv hok
 go_enter func146,ntmps146
 go_wp2
 go_loopw [7,8] (fun s i wr=>∃k:Nat,k≤l.length∧i=Vi k∧s=Vi (totU T R l v k)∧RB w wr T R S C) (fun _ i _=>l.length-(intOf i).toNat)
 case atStart=>exact⟨0,Nat.zero_le _,rfl,rfl,HR.out⟩
 case round=>
  clear HR;obtain⟨k,hk,rfl,rfl,hR⟩:=hrel;have hbd:=totU_bd HOK.out v k hk
  by_cases hlt:k<l.length
  · obtain⟨bl,ol,rfl,d0,d1,d2⟩:=(HV.out.later hR.2).at hlt;have htn:=taken_any T R S C (svAt l k).1 (svAt l k).2.1 (svAt l k).2.2 v HOK.out.1 (HOK.out.2 k hlt);have htb:=tk_bd HOK.out hlt v;have HS:=Zab (show totU T R l v (k+1)=totU T R l v k+tk T R ((svAt l k).1,(svAt l k).2.1,(svAt l k).2.2) v from rfl);rw[show tk T R (svAt l k) v=tk T R ((svAt l k).1,(svAt l k).2.1,(svAt l k).2.2) v from rfl] at htb
    have j0:(0:Int)≤(k:Int):=by omega
    have j1:(k:Int)<(l.length:Int):=by omega
    generalize totU T R l v k=s at *;generalize tk T R ((svAt l k).1,(svAt l k).2.1,(svAt l k).2.2) v=t at *;generalize (svAt l k).1=i at *;generalize (svAt l k).2.1=b at *;generalize (svAt l k).2.2=o at *;have S0:(wr.cell? (Ad w.heap.size 0)=some (Vi T)∧wr.cell? (Ad w.heap.size 1)=some (Vi R)∧wr.cell? (Ad w.heap.size 2)=some (Vi S)∧wr.cell? (Ad w.heap.size 3)=some (Vi C))∧(wr.cell? (Ad bl (ol+k*3))=some (Vi i)∧wr.cell? (Ad bl (ol+k*3+1))=some (Vi b)∧wr.cell? (Ad bl (ol+k*3+2))=some (.bool o))∧Below w.heap.size w wr:=⟨hR.1,⟨d0,d1,d2⟩,hR.2⟩;have Z:=Zab S0;clear hR d0 d1 d2
    go_upto_region 5 with fail
    go_region_held3 (fun u=>(u.cell? (Ad w.heap.size 0)=some (Vi T)∧u.cell? (Ad w.heap.size 1)=some (Vi R)∧u.cell? (Ad w.heap.size 2)=some (Vi S)∧u.cell? (Ad w.heap.size 3)=some (Vi C))∧(u.cell? (Ad bl (ol+k*3))=some (Vi i)∧u.cell? (Ad bl (ol+k*3+1))=some (Vi b)∧u.cell? (Ad bl (ol+k*3+2))=some (.bool o))∧Below w.heap.size w u)
     (first
      |(with_reducible assumption)
      |(with_reducible refine keepQ (Zaa _ _) ?_;with_reducible assumption)
      |(with_reducible apply keepQ;with_reducible assumption;with_reducible assumption)
      |(refine keepQ ?_ Z.out;exact(Below.refl _ _).drew))
     (first
      |(go_at_call 147;refine Sb (htn _) fun w' hb=>?_))
    all_goals
     rename_i hH
     have HH:=Zab hH;clear hH;go_wp2_with fail;go_roundw
     (case rel=>exact⟨k+1,by omega,by go_num,by rw[HS.out,Zio (by omega) (by omega)],HH.out.1,HH.out.2.2⟩)
     (case measure=>simp[intOf];omega)
  · have e:k=l.length:=by omega
    subst e;go_wp2;go_ret;exact⟨rfl,hR.2⟩
def smU(l:List Sv):Nat→Int
 |0=>0
 |k+1=>smU l k+(svAt l k).1
theorem smU_bd{l:List Sv}(h:∀k,k<l.length→-2147483647≤(svAt l k).1∧(svAt l k).1≤2147483647):∀k:Nat,k≤l.length→-2147483647*(k:Int)≤smU l k∧smU l k≤2147483647*(k:Int)
 |0,_=>by simp[smU]
 |k+1,hk=>by
  have a:=smU_bd h k (by omega);have c:=h k (by omega);simp only[smU];omega
theorem sumOf_any(l:List Sv)(a:Option Addr)(cap:Nat)(hl:l.length≤9)(hi:∀k,k<l.length→-2147483647≤(svAt l k).1∧(svAt l k).1≤2147483647)(w:World)(hv:VLs w a l):
 Calls prog 95 #[.slice a l.length cap] w fun e w'=>e=.returned (Vi (smU l l.length))∧w'=w:=by
 have HV:=Zab hv;have HI:=Zab hi;clear hv hi
 go_enter func95,ntmps95
 go_wp2
 go_loop [3,4] (fun s i=>∃k:Nat,k≤l.length∧i=Vi k∧s=Vi (smU l k)) (fun _ i=>l.length-(intOf i).toNat)
 case atStart=>exact⟨0,Nat.zero_le _,rfl,rfl⟩
 case round=>
  obtain⟨k,hk,rfl,rfl⟩:=hrel;have hbd:=smU_bd HI.out k hk
  by_cases hlt:k<l.length
  · obtain⟨bl,ol,rfl,d0,d1,d2⟩:=HV.out.at hlt;have hb1:=HI.out k hlt;have HS:=Zab (show smU l (k+1)=smU l k+(svAt l k).1 from rfl)
    have j0:(0:Int)≤(k:Int):=by omega
    have j1:(k:Int)<(l.length:Int):=by omega
    generalize smU l k=s at *;generalize (svAt l k).1=i at *;go_wp2
    go_round
    case rel=>exact⟨k+1,by omega,by go_num,by rw[HS.out]⟩
    case measure=>simp[intOf];omega
  · have e:k=l.length:=by omega
    subst e;go_wp2;go_ret;exact⟨rfl,rfl⟩
theorem shareSum_any(l:List Sv)(a:Option Addr)(cap:Nat)(hl:l.length≤9)(hi:∀k,k<l.length→-2147483647≤(svAt l k).1∧(svAt l k).1≤2147483647)(w:World)(hv:VLs w a l):
 Calls prog 174 #[.slice a l.length cap] w fun e w'=>e=.returned (Vi (smU l l.length))∧Below w.heap.size w w':=by
 have HV:=Zab hv;have HI:=Zab hi;clear hv hi
 go_enter func174,ntmps174
 go_wp2
 go_loopw [3,8] (fun s i wr=>∃k:Nat,k≤l.length∧i=Vi k∧s=Vi (smU l k)∧Below w.heap.size w wr) (fun _ i _=>l.length-(intOf i).toNat)
 case atStart=>exact⟨0,Nat.zero_le _,rfl,rfl,Below.refl _ _⟩
 case round=>
  obtain⟨k,hk,rfl,rfl,hb⟩:=hrel;have hbd:=smU_bd HI.out k hk
  by_cases hlt:k<l.length
  · obtain⟨bl,ol,rfl,d0,d1,d2⟩:=(HV.out.later hb).at hlt;have hb1:=HI.out k hlt;have HS:=Zab (show smU l (k+1)=smU l k+(svAt l k).1 from rfl);have HB:=Zab hb
    have j0:(0:Int)≤(k:Int):=by omega
    have j1:(k:Int)<(l.length:Int):=by omega
    clear hb;generalize smU l k=s at *;generalize (svAt l k).1=i at *;go_wp2;go_roundw
    case rel=>exact⟨k+1,by omega,by go_num,by rw[HS.out],Zac HB.out (Zaa _ _)⟩
    case measure=>simp[intOf];omega
  · have e:k=l.length:=by omega
    subst e;go_wp2;go_ret;exact⟨rfl,hb⟩
def sndU(l:List Sv):Nat→Int
 |0=>0
 |k+1=>if(svAt l k).2.2 then sndU l k else sndU l k+1
theorem sndU_bd(l:List Sv):∀k:Nat,0≤sndU l k∧sndU l k≤k
 |0=>by simp[sndU]
 |k+1=>by have:=sndU_bd l k;simp only[sndU];split<;>omega
theorem sound_any(l:List Sv)(a:Option Addr)(cap:Nat)(hl:l.length≤1000)(w:World)(hv:VLs w a l):
 Calls prog 132 #[.slice a l.length cap] w fun e w'=>e=.returned (Vi (sndU l l.length))∧Below w.heap.size w w':=by
 have HV:=Zab hv;clear hv
 go_enter func132,ntmps132
 go_wp2
 go_loopw [3,8] (fun s i wr=>∃k:Nat,k≤l.length∧i=Vi k∧s=Vi (sndU l k)∧Below w.heap.size w wr) (fun _ i _=>l.length-(intOf i).toNat)
 case atStart=>exact⟨0,Nat.zero_le _,rfl,rfl,Below.refl _ _⟩
 case round=>
  obtain⟨k,hk,rfl,rfl,hb⟩:=hrel;have hbd:=sndU_bd l k
  by_cases hlt:k<l.length
  · obtain⟨bl,ol,rfl,d0,d1,d2⟩:=(HV.out.later hb).at hlt;have HS:=Zab (show sndU l (k+1)=if(svAt l k).2.2 then sndU l k else sndU l k+1 from rfl);have HB:=Zab hb
    have j0:(0:Int)≤(k:Int):=by omega
    have j1:(k:Int)<(l.length:Int):=by omega
    clear hb;generalize sndU l k=s at *;generalize (svAt l k).1=i at *;generalize (svAt l k).2.1=b at *;generalize (svAt l k).2.2=o at*
    cases o
    · go_wp2;go_roundw
      case rel=>exact⟨k+1,by omega,by go_num,by rw[HS.out];rfl,Zac HB.out (Zaa _ _)⟩
      case measure=>simp[intOf];omega
    · go_wp2;go_roundw
      case rel=>exact⟨k+1,by omega,by go_num,by rw[HS.out];rfl,Zac HB.out (Zaa _ _)⟩
      case measure=>simp[intOf];omega
  · have e:k=l.length:=by omega
    subst e;go_wp2;go_ret;exact⟨rfl,hb⟩
theorem Zim(f i k:Int)(hf:0≤f∧f≤1000)(hi:0≤i∧i≤10)(hk:0≤k∧k≤1000)(w:World):
 Calls prog 108 #[Vi f,Vi i,Vi k] w fun e w'=>e=.returned (Vi (f+4*i+k))∧w'=w:=by
 obtain⟨f0,f1⟩:=hf;obtain⟨i0,i1⟩:=hi;obtain⟨k0,k1⟩:=hk
 go_enter func108,ntmps108
 go_wp2;go_ret;exact⟨rfl,rfl⟩
theorem status_any(i b:Int)(o:Bool)(w:World):
 Calls prog 175 #[.agg #[Vi i,Vi b,.bool o]] w fun e w'=>e=.returned (Vi (if o then 0 else 3))∧Below w.heap.size w w':=by
 cases o
 · go_enter func175,ntmps175
   go_wp2;go_ret;exact⟨rfl,Zaa _ _⟩
 · go_enter func175,ntmps175
   go_wp2;go_ret;exact⟨rfl,Zaa _ _⟩
theorem putL_cons(a:Value):∀(vs:List Value) (cs:List Value) (o:Nat),putL (a::cs) (o+1) vs=a::putL cs o vs
 |[],_,_=>rfl
 |v::r,cs,o=>by
  show putL ((a::cs).set (o+1) v) (o+1+1) r=a::putL (cs.set o v) (o+1) r
  rw[List.set_cons_succ];exact putL_cons a r (cs.set o v) (o+1)
theorem Zfj:∀L:List Sv,(svL L).length=L.length*3
 |[]=>rfl
 |s::r=>by simp only[svL,List.length_cons,Zfj r];omega
theorem svL_at:∀(L:List Sv) (k:Nat),k<L.length→((svL L).drop (k*3)).take 3=[Vi (svAt L k).1,Vi (svAt L k).2.1,.bool (svAt L k).2.2]
 |[],_,h=>by simp at h
 |s::r,0,_=>rfl
 |s::r,k+1,h=>by
  have:=svL_at r k (by simpa using h);rw[show(k+1)*3=k*3+1+1+1 by omega]
  simpa[svL,svAt] using this
theorem svL_put(s:Sv):∀(L:List Sv) (k:Nat),k<L.length→putL (svL L) (k*3) [Vi s.1,Vi s.2.1,.bool s.2.2]=svL (L.set k s)
 |[],_,h=>by simp at h
 |x::r,0,_=>rfl
 |x::r,k+1,h=>by
  have:=svL_put s r k (by simpa using h);rw[show(k+1)*3=k*3+1+1+1 by omega];simp only[svL,putL_cons,this,List.set_cons_succ]
theorem blk_vls{t:TypeId}{u:World}{g:Nat}{L:List Sv}(h:Blk t u g (svL L)):VLs u (some (Ad g 0)) L:=by
 refine .inr ⟨g,0,rfl,fun k hk=>?_⟩;have r:=h.sub (k*3) 3;rw[svL_at L k hk] at r;have r0:=r 0 _ rfl;have r1:=r 1 _ rfl;have r2:=r 2 _ rfl;simp only[Nat.zero_add];exact⟨r0,r1,r2⟩
section
variable {K : Nat} {w0 u : World} {B : Nat} {S : FS} {C : CR} {a : Option Addr} {cap : Nat} {l : List Rd} {sv : Nat → List Sv} {G : Nat → Nat}
theorem FR.vls(h:FR K w0 u B S C a cap l sv G){i:Nat}(hi:i<2):VLs u (S.sp i) (sv i):=by
 have:=h.servo i hi;rw[this.1];exact blk_vls this.2.2.1
theorem FR.putServo(h:FR K w0 u B S C a cap l sv G){i k:Nat}(hi:i<2)(hk:k<(sv i).length)(s:Sv):FR K w0 (u.setCells (G i) (k*3) [Vi s.1,Vi s.2.1,.bool s.2.2]) B S C a cap l (upd sv i ((sv i).set k s)) G:=by
 have hs:=h.servo i hi;refine⟨Blk.farCells hs.2.2.2.2.1.symm _ _ _ h.blk,Zbe hs.2.2.2.2.2 _ _ _ h.rds,Zag _ _ _ h.low hs.2.2.2.1,h.base,h.far,fun j hj=>?_,h.two,h.many,fun b h1 h2 h3 h4=>(heap_far (show b≠G i by rcases(show i=0∨i=1 by omega) with rfl|rfl<;>assumption) _ _ _).trans (h.oth b h1 h2 h3 h4)⟩;have hsj:=h.servo j hj
 by_cases e:j=i
 · subst e;rw[Zan];exact⟨hsj.1,by rw[List.length_set];exact hsj.2.1,svL_put s (sv j) k hk▸Blk.setCells _ _ _ _ hsj.2.2.1,hsj.2.2.2⟩
 · rw[Zbb sv _ e]
   have hG:G j≠G i:=by
    have:=h.two
    rcases(show(j=0∧i=1)∨(j=1∧i=0) by omega) with⟨rfl,rfl⟩|⟨rfl,rfl⟩
    · exact this
    · exact this.symm
   exact⟨hsj.1,hsj.2.1,Blk.farCells hG _ _ _ hsj.2.2.1,hsj.2.2.2⟩
end
def wv(C:CR)(l:List Rd)(i k:Nat)(s:Sv):Sv:=
 (wI (C.a i 7) (C.a i 10) s.1 s.2.1 (smp l (16+4*(i:Int)+(k:Int)) 3).2 s.2.2 (smp l (16+4*(i:Int)+(k:Int)) 3).1,wB (C.a i 7) s.1 s.2.1 (smp l (16+4*(i:Int)+(k:Int)) 3).2 s.2.2 (smp l (16+4*(i:Int)+(k:Int)) 3).1,wO (C.a i 7) (C.a i 10) s.1 s.2.1 (smp l (16+4*(i:Int)+(k:Int)) 3).2 s.2.2 (smp l (16+4*(i:Int)+(k:Int)) 3).1)
def wml(C:CR)(l:List Rd)(i:Nat)(L:List Sv)(k:Nat):List Sv:=(List.range L.length).map fun j=>if j<k then wv C l i j (svAt L j) else svAt L j
theorem Zgo(C:CR)(l:List Rd)(i:Nat)(L:List Sv)(k:Nat):(wml C l i L k).length=L.length:=by simp[wml]
theorem wml_zero(C:CR)(l:List Rd)(i:Nat)(L:List Sv):wml C l i L 0=L:=by
 apply List.ext_getElem
 · simp[wml]
 · intro j h1 h2
   simp[wml,svAt,h2]
theorem wml_at(C:CR)(l:List Rd)(i:Nat)(L:List Sv){k:Nat}(hk:k<L.length):svAt (wml C l i L k) k=svAt L k:=by
 simp[wml,svAt,hk]
theorem wml_step(C:CR)(l:List Rd)(i:Nat)(L:List Sv){k:Nat}:(wml C l i L k).set k (wv C l i k (svAt L k))=wml C l i L (k+1):=by
 apply List.ext_getElem
 · simp[wml]
 · intro j h1 h2;simp only[wml,List.length_set,List.length_map,List.length_range] at h1;rw[List.getElem_set]
   by_cases e:k=j
   · subst e
     simp[wml]
   · rw[if_neg e];simp only[wml,List.getElem_map,List.getElem_range]
     by_cases h3:j<k
     · rw[if_pos h3,if_pos (by omega)]
     · rw[if_neg h3,if_neg (by omega)]
theorem Zgl:(prog.info? 116).map (·.size)=some 3:=by kernel_rfl
theorem axidx(C:CR)(i:Nat)(hi:i<2)(w:World):(Instr.index 27 (.agg (axL C 0++axL C 1).toArray) (Vi (i:Int))).run prog w=.ok (.agg (axL C i).toArray) w:=by
 rcases(show i=0∨i=1 by omega) with rfl|rfl
 · exact axidx0 C w
 · exact axidx1 C w
def wsx(C:CR)(l:List Rd)(sv:Nat→List Sv)(i:Nat)(j:Nat):List Sv:=if j<i then wml C l j (sv j) (sv j).length else sv j
theorem wsx_zero(C:CR)(l:List Rd)(sv:Nat→List Sv):wsx C l sv 0=sv:=by funext j;simp[wsx]
theorem wsx_start(C:CR)(l:List Rd)(sv:Nat→List Sv)(i:Nat):upd (wsx C l sv i) i (wml C l i (sv i) 0)=wsx C l sv i:=by
 funext j
 by_cases e:j=i
 · subst e;rw[Zan,wml_zero];simp[wsx]
 · rw[Zbb _ _ e]
theorem wsx_end(C:CR)(l:List Rd)(sv:Nat→List Sv)(i:Nat):upd (wsx C l sv i) i (wml C l i (sv i) (sv i).length)=wsx C l sv (i+1):=by
 funext j
 by_cases e:j=i
 · subst e;rw[Zan];simp[wsx]
 · rw[Zbb _ _ e]
   unfold wsx
   by_cases h:j<i
   · rw[if_pos h,if_pos (by omega)]
   · rw[if_neg h,if_neg (by omega)]
theorem upd_upd{α:Type}(f:Nat→α)(i:Nat)(x y:α):upd (upd f i x) i y=upd f i y:=by
 funext j;unfold upd;split<;>rfl
theorem watchServos_ok{K:Nat}{wz w:World}{B:Nat}{S:FS}{C:CR}{a:Option Addr}{cap:Nat}{l:List Rd}{sv:Nat→List Sv}{G:Nat→Nat}(hf:FR K wz w B S C a cap l (sv) G)
 (hl:∀i,i<2→(sv i).length≤9) (hs:∀i,i<2→∀k,k<(sv i).length→svE (C.a i 5) (C.a i 6) (C.a i 7) (C.a i 10) (svAt (sv i) k).1 (svAt (sv i) k).2.1 (svAt (sv i) k).2.2=0):
 Calls prog 59 #[.pointer (some (Ad B 0))] w fun e w'=>e=.returned .nilIface∧FR K wz w' B S C a cap l (wsx C l sv 2) G:=by
 have HF:=Zab hf;have HL:=Zab hl;have HSV:=Zab hs;have HX:=Zab (hf.blk.sub 30 30);rw[fr_axes] at HX;clear hf hl hs
 go_enter func59,ntmps59
 go_upto_region 2 with(first
  |(refine Lq 27 _ rfl ?_;refine wpList_load_mid rfl 27 (.tmp 12) rfl B 30 rfl (axL C 0++axL C 1) _ HX.out underlying27 rfl infoA30 ?_))
 clear HX
 go_loopw [14] (fun ix wr=>∃i:Nat,i≤2∧ix=Vi i∧FR K wz wr B S C a cap l (wsx C l sv i) G) (fun ix _=>2-(intOf ix).toNat)
 case atStart=>exact⟨0,by omega,rfl,by rw[wsx_zero];exact HF.out⟩
 case round=>
  obtain⟨i,hi2,rfl,hfr⟩:=hrel;clear HF
  by_cases hi:i<2
  · have HFR:=Zab hfr;have hidx:=axidx C i hi
    have i0:(0:Int)≤(i:Int):=by omega
    have i1:(i:Int)<2:=by omega
    obtain⟨n,hn⟩:∃n,n=(sv i).length:=⟨_,rfl⟩;have HA0:Hid (Blk 26 (wr.alloc (.cells (axL C i).toArray 26)) wr.heap.size (axL C i)):=Zab (Blk.new wr _ (axL C i));have HF0:=Zab (hfr.later (Zaa wr (.cells (axL C i).toArray 26)));clear hfr
    go_upto_region 4 with(first
     |(refine Sq 26 _ _ rfl ?_;refine Zct (c':=(axL C i).toArray) (.tmp 4) (.tmp 17) rfl rfl rfl rfl rfl rfl (Zaq _ rfl) ?_))
    generalize wr.alloc (.cells (axL C i).toArray 26)=v0 at *;generalize wr.heap.size=QA at HA0⊢;clear HFR;have hsv:=(HF0.out.blk.cell (Zja S C _ hi)).1;have hsp:S.sp i=some (Ad (G i) 0):=(HF0.out.servo i hi).1
    have hsn:S.sn i=n:=by rw[hn];have:=(HF0.out.servo i hi).2.1;simpa[wsx] using this
    rw[hsp,hsn] at hsv;clear hsp hsn
    go_upto_region 5 with fail;clear hsv
    go_loopw [26] (fun ix wr=>∃k:Nat,k≤n∧ix=Vi k∧FR K wz wr B S C a cap l (upd (wsx C l sv i) i (wml C l i (sv i) k)) G∧Blk 26 wr QA (axL C i)) (fun ix _=>n-(intOf ix).toNat)
    case atStart=>exact⟨0,Nat.zero_le _,rfl,by rw[wsx_start];exact HF0.out,HA0.out⟩
    case round=>
     obtain⟨k,hk,rfl,hfr,hax⟩:=hrel;clear HF0 HA0;have hsp:S.sp i=some (Ad (G i) 0):=(hfr.servo i hi).1
     have hsn:S.sn i=n:=by have:=(hfr.servo i hi).2.1;rwa[Zan,Zgo,←hn] at this
     have hn9:n≤9:=by rw[hn];exact HL.out i hi
     by_cases hlt:k<n
     · have g:=(hfr.servo i hi).2.2.1.sub (k*3) 3;rw[Zan,svL_at _ k (by rw[Zgo];omega),wml_at _ _ _ _ (by omega)] at g;have c0:wr.cell? (Ad (G i) (k*3))=some (Vi (svAt (sv i) k).1):=g 0 _ rfl;have c1:wr.cell? (Ad (G i) (k*3+1))=some (Vi (svAt (sv i) k).2.1):=g 1 _ rfl;have c2:wr.cell? (Ad (G i) (k*3+2))=some (.bool (svAt (sv i) k).2.2):=g 2 _ rfl;have h0:=HSV.out i hi k (by omega);have HWV:=Zab (rfl:wv C l i k (svAt (sv i) k)=wv C l i k (svAt (sv i) k));have hul:=Zim 16 (i:Int) (k:Int) (by omega) (by omega) (by omega);have HLB:Hid (0≤(16+4*(i:Int)+(k:Int))):=Zab (by omega)
       unfold wv at HWV
       have hwa0:=fun st sz=>watch_ok (C.a i 5) (C.a i 6) (C.a i 7) (C.a i 10) (svAt (sv i) k).1 (svAt (sv i) k).2.1 (svAt (sv i) k).2.2 st sz h0;have hwa:=hwa0 (smp l (16+4*(i:Int)+(k:Int)) 3).1 (smp l (16+4*(i:Int)+(k:Int)) 3).2;obtain⟨ni,nb,no,HNI⟩:∃ni nb no,Hid (wv C l i k (svAt (sv i) k)=(ni,nb,no)):=⟨_,_,_,Zab rfl⟩;have e1:wI (C.a i 7) (C.a i 10) (svAt (sv i) k).1 (svAt (sv i) k).2.1 (smp l (16+4*(i:Int)+(k:Int)) 3).2 (svAt (sv i) k).2.2 (smp l (16+4*(i:Int)+(k:Int)) 3).1=ni:=congrArg (·.1) HNI.out;have e2:wB (C.a i 7) (svAt (sv i) k).1 (svAt (sv i) k).2.1 (smp l (16+4*(i:Int)+(k:Int)) 3).2 (svAt (sv i) k).2.2 (smp l (16+4*(i:Int)+(k:Int)) 3).1=nb:=congrArg (·.2.1) HNI.out;have e3:wO (C.a i 7) (C.a i 10) (svAt (sv i) k).1 (svAt (sv i) k).2.1 (smp l (16+4*(i:Int)+(k:Int)) 3).2 (svAt (sv i) k).2.2 (smp l (16+4*(i:Int)+(k:Int)) 3).1=no:=congrArg (·.2.2) HNI.out;rw[e1,e2,e3] at hwa;clear e1 e2 e3 hwa0 HWV h0 g HLB;obtain⟨si,sb,so,HSI⟩:∃si sb so,Hid ((svAt (sv i) k).1=si∧(svAt (sv i) k).2.1=sb∧(svAt (sv i) k).2.2=so):=⟨_,_,_,Zab ⟨rfl,rfl,rfl⟩⟩;rw[HSI.out.1] at c0;rw[HSI.out.2.1] at c1;rw[HSI.out.2.2] at c2;simp only[HSI.out.1,HSI.out.2.1,HSI.out.2.2] at hwa;obtain⟨st,sz,HST⟩:∃st sz,Hid ((smp l (16+4*(i:Int)+(k:Int)) 3).1=st∧(smp l (16+4*(i:Int)+(k:Int)) 3).2=sz):=⟨_,_,Zab ⟨rfl,rfl⟩⟩;simp only[HST.out.1,HST.out.2] at hwa
       have k0:(0:Int)≤(k:Int):=by omega
       have k1:(k:Int)<(n:Int):=by omega
       have HFQ:=Zab (hfr.later (Zaa wr (.cells #[Vi si,Vi sb,.bool so] 116)));have HAXB:=Zab (hax.later (Zaa wr (.cells #[Vi si,Vi sb,.bool so] 116)));have HP:Hid (Blk 116 (wr.alloc (.cells #[Vi si,Vi sb,.bool so] 116)) wr.heap.size [Vi si,Vi sb,.bool so]):=Zab (Blk.new wr _ [Vi si,Vi sb,.bool so]);clear hfr hax
       go_upto_region 7 with fail;clear c0 c1 c2;generalize wr.alloc (.cells #[Vi si,Vi sb,.bool so] 116)=w0 at *;generalize wr.heap.size=P6 at HP⊢;have d0:=(HP.out.cell (j:=0) rfl).1;have d1:=(HP.out.cell (j:=1) rfl).1;have d2:=(HP.out.cell (j:=2) rfl).1;have HAX:=Zab HAXB.out.range;have hru:=Zed (C.a i 0) (C.a i 1) (C.a i 2) (C.a i 3) (C.a i 4) (C.a i 5) (C.a i 6) (C.a i 7) (C.a i 8) (C.a i 9) (C.a i 10) (C.a i 11) (C.a i 14) (C.p i) (C.q i) (C.al i).length (C.zl i).length (C.cn i) (C.cm i)
       have hsy:∀u,Below w0.heap.size w0 u→Calls prog 107 #[.pointer (some (Ad B 0)),Vi (16+4*(i:Int)+(k:Int)),Vi 3] u fun e w'=>e=.returned (.agg #[.bool st,Vi sz])∧Below u.heap.size u w':=fun u h=>by
        have:=Zhh B a cap l (16+4*(i:Int)+(k:Int)) 3 HFQ.out.many u (cell_later h HFQ.out.said) (HFQ.out.rds.later h)
        rwa[HST.out.1,HST.out.2] at this
       clear HP;refine Cs [32,33,34,35,36,37,38,39,40,31,41,42,7] ?_;refine Cl (x:=.tmp 4) 0 32 [] (fun y w _ u hSw=>⟨Zae HAX.out hSw,rfl⟩) underlying26 Zav ?_;refine Cc 1 33 [0] (fun y w h _=>hru _) ?_;refine Cq (fun _ h=>And.intro (cell_later h d0) (And.intro (cell_later h d1) (cell_later h d2))) 2 34 [] ?_;refine Cp 3 35 [] ?_;refine Cp 4 36 [] ?_;refine Cp 5 37 [] ?_;refine Cc 6 38 [4,5] (fun y w h _=>Zif (hul _)) ?_;refine Cc 7 39 [3,6] (fun y w h _=>hsy _ h) ?_;refine Cc 8 40 [1,2,7] (fun y w h _=>hwa _) ?_;refine Cp 9 31 [8] ?_;refine Cp 10 41 [9] ?_;refine Cp 11 42 [9] ?_;refine Ca 12 7 ?_;refine Cn 2 15 [13,14] (fun y u1 hB hf=>?_);obtain⟨XA,e,hA⟩:=hf.1;have HAA1:Hid (NB _ _ _ XA [Vi 0,Vi 0,.bool false]):=Zab hA;(try simp only[e]);clear e hA;have HS1:=Zab hB;clear hB hf;refine Ra 13 (fun K hK=>?_);rw[if_pos (by rfl)];refine Zam 116 (.tmp 7) (.tmp 41) rfl XA 0 #[Vi ni,Vi nb,.bool no] rfl rfl (HAA1.out.1.there (Nat.le_of_ble_eq_true rfl)) Zgl (Zaq _ rfl) rfl ?_;have HS2:=Zab (Zag [Vi ni,Vi nb,.bool no] 0 u1 HS1.out (NB.le HAA1.out));have HAA2:Hid (NB 116 w0.heap.size (u1.setCells XA 0 [Vi ni,Vi nb,.bool no]) XA [Vi ni,Vi nb,.bool no]):=Zab ⟨Blk.setCells [Vi ni,Vi nb,.bool no] 0 u1 [Vi 0,Vi 0,.bool false] HAA1.out.1,NB.le HAA1.out⟩;generalize hU:World.setCells _ XA 0 _=u2 at *;clear hU;refine hK.out _ _ HS2.out (fun _=>?_);clear hK K;clear HS1 HAA1;refine Tq 14 HS2.out ?_;(try simp only[Act.put]);refine wpAnyH_done (by kernel_rfl) ?_ _;go_simp;have hA:=HAA2.out;have hB:=HS2.out;clear HAA2 HS2;generalize u2=v at hA hB⊢;clear d0 d1 d2 hru hul hsy hwa;refine Zby (by assumption) ?_;have HFv:=Zab (HFQ.out.later hB)
       have HXB:Hid (XA≠G i∧B≠G i∧QA≠G i):=Zab ⟨by
        have h1:=NB.le hA;have h2:=(HFQ.out.servo i hi).2.2.1.lt
        omega,(HFQ.out.servo i hi).2.2.2.2.1.symm,fun e=>by
        have h1:=HAXB.out;have h2:=(HFQ.out.servo i hi).2.2.1;rw[e] at h1
        unfold Blk at h1 h2
        rw[h1] at h2
        simp at h2⟩
       have HXA:=Zab hA.1;have HAV:=Zab (HAXB.out.later hB);clear hA hB HFQ HAXB HAX
       go_upto_region 10 with fail;have HFd:=Zab (HFv.out.later (Below.refl _ _).drew);have HT:Hid (World.there v.drew (G i) (k*3) 3):=Zab ((HFd.out.servo i hi).2.2.1.there (by rw[Zfj,Zan,Zgo];omega))
       have HX0:Hid (World.rangeAt v.drew XA 0 [Vi ni,Vi nb,.bool no]∧World.cell? v.drew ⟨B,21+i,none⟩=some (.slice (some (Ad (G i) 0)) n (S.sc i))):=Zab ⟨(HXA.out.later (Below.refl _ _).drew).range,by
        have:=(HFd.out.blk.cell (Zja S C _ hi)).1
        rwa[hsp,hsn] at this⟩
       have HX:=Zab (And.intro HXB.out.1 HXB.out.2.1)
       have HFin:Hid (FR K wz (World.setCells v.drew (G i) (k*3) [Vi ni,Vi nb,.bool no]) B S C a cap l (upd (wsx C l sv i) i (wml C l i (sv i) (k+1))) G):=by
        have h:=HFd.out.putServo hi (k:=k) (by rw[Zan,Zgo];omega) (ni,nb,no);rw[Zan,upd_upd,←HNI.out,wml_step,HNI.out] at h;exact Zab h
       have HAF:=Zab (Blk.farCells HXB.out.2.2 [Vi ni,Vi nb,.bool no] (k*3) _ (HAV.out.later (Below.refl _ _).drew));clear HFv HXA HFd HAV HXB;refine wp_region_held_drew (S:=fun u=>(u.rangeAt XA 0 [Vi ni,Vi nb,.bool no]∧u.cell? (Ad B (21+i))=some (.slice (some (Ad (G i) 0)) n (S.sc i)))) (by kernel_rfl) (HX0.out) (fun _=>?_);have HS0:Hid ((v.drew.rangeAt XA 0 [Vi ni,Vi nb,.bool no]∧v.drew.cell? (Ad B (21+i))=some (.slice (some (Ad (G i) 0)) n (S.sc i)))):=Zab (HX0.out);refine Tq 0 HS0.out ?_;simp only[Act.put,Ly];refine Tq 1 HS0.out ?_;simp only[Act.put,Ly];refine Tq 2 HS0.out ?_;simp only[Act.put,Ly];refine Tq 3 HS0.out ?_;simp only[Act.put,Ly];refine Tq 4 HS0.out ?_;simp only[Act.put,Ly];refine Tq 5 HS0.out ?_;simp only[Act.put,Ly];refine Th 6 rfl (by intro w hSw;(try dsimp only at hSw);have y:=hSw.2;clear hSw;go_simp;(try with_reducible rfl)) HS0.out ?_;simp only[Act.put,Ly];refine Tq 7 HS0.out ?_;simp only[Act.put,Ly];refine Tk 8 rfl (yieldsIf_load_mid (by rfl) 116 (.tmp 7) rfl XA 0 rfl [Vi ni,Vi nb,.bool no] _ (fun w hSw=>hSw.1) underlying116 rfl Zgl) HS0.out ?_;simp only[Act.put,Ly];refine Tq 9 HS0.out ?_;simp only[Act.put,Ly];refine Ra 10 (fun K hK=>?_);rw[if_pos (by rfl)];refine Zam 116 (.tmp 55) (.tmp 54) rfl (G i) (k*3) #[Vi ni,Vi nb,.bool no] rfl rfl (HT.out) Zgl (Zaq _ rfl) rfl ?_;have HS1:=Zab (And.intro (World.rangeAt_setCells_apart HS0.out.1 (G i) (k*3) [Vi ni,Vi nb,.bool no] (.inl HX.out.1)) (Zdo HX.out.2 [Vi ni,Vi nb,.bool no] (k*3) _ HS0.out.2));refine hK.out _ _ HS1.out (fun _=>?_);clear hK K;refine wpAnyH_done (by kernel_rfl) ?_ _;go_simp;refine Zby (by assumption) ?_;go_wp2_with fail;go_roundw
       case rel=>exact⟨k+1,by omega,by go_num,HFin.out,HAF.out⟩
       case measure=>simp[intOf];omega
     · obtain rfl:k=n:=by omega
       clear hsp hsn;go_wp2_with fail;go_roundw
       case rel=>exact⟨i+1,by omega,by go_num,by rw[←wsx_end,←hn];exact hfr⟩
       case measure=>simp[intOf];omega
  · obtain rfl:i=2:=by omega
    go_wp2_with fail;go_ret;exact⟨rfl,hfr⟩
theorem infoH3:(prog.info? 128).map (·.size)=some 3:=by kernel_rfl
theorem putL_len:∀(vs cs:List Value) (o:Nat),(putL cs o vs).length=cs.length
 |[],_,_=>rfl
 |v::r,cs,o=>by rw[putL,putL_len r,List.length_set]
theorem hS_later{t:TypeId}{w u u':World}{Y:Nat}(hb:Below u.heap.size u u')(h:Below w.heap.size w u∧∃cs:List Value,cs.length=3∧Blk t u Y cs):Below w.heap.size w u'∧∃cs:List Value,cs.length=3∧Blk t u' Y cs:=
 ⟨Zac h.1 hb,h.2.elim fun cs k=>⟨cs,k.1,k.2.later hb⟩⟩
theorem hS_put{t:TypeId}{w u:World}{Y:Nat}(hY:w.heap.size≤Y)(vs:List Value)(o:Nat)(h:Below w.heap.size w u∧∃cs:List Value,cs.length=3∧Blk t u Y cs):Below w.heap.size w (u.setCells Y o vs)∧∃cs:List Value,cs.length=3∧Blk t (u.setCells Y o vs) Y cs:=
 ⟨Zag vs o u h.1 hY,h.2.elim fun cs k=>⟨_,by rw[putL_len];exact k.1,Blk.setCells vs o u cs k.2⟩⟩
theorem res_health(tmps:Array Value)(U:World)(Y:Nat)(cs:List Value)(h2:tmps.getD 4 undef=.pointer (some (Ad Y 0)))(hR:U.rangeAt Y 0 cs)(hn:cs.length=3):
 (results Tryz.f109 tmps).run prog U=.ok (.agg cs.toArray) U:=by
 have h3:tmps[4]?.getD undef=.pointer (some (Ad Y 0)):=by simpa using h2
 simp[results,results109,h3,asAddr,run_loadVar_mid U Y 0 128 cs _ hR underlying128 rfl (by rw[infoH3,hn])]
theorem health_ok{K:Nat}{wz w:World}{B:Nat}{S:FS}{C:CR}{a:Option Addr}{cap:Nat}{l:List Rd}{sv:Nat→List Sv}{G:Nat→Nat}(hf:FR K wz w B S C a cap l sv G)(i:Nat)(hi:i<2)(hl:(sv i).length≤9):
 Calls prog 109 #[.pointer (some (Ad B 0)),Vi i] w fun e w'=>e=.returned (.agg #[Vi (Zdi (S.bk i).o 3),Vi (sndU (sv i) (sv i).length),Vi (C.a i 4)])∧Below w.heap.size w w':=by
 have hlf:=left_any (S.bk i).b (S.bk i).o (S.bk i).l;have hsv:=(hf.blk.cell (Zja S C _ hi)).1;have hsf:=(hf.blk.cell (fr_surf S C _ hi)).1;rw[(hf.servo i hi).1,(hf.servo i hi).2.1] at hsv;have HG:=Zab (hf.blk.sub (i*7) 7);rw[fr_bank S C _ (show i<3 by omega)] at HG;have hvl:=hf.vls hi;rw[(hf.servo i hi).1] at hvl;have hsd:=fun u (h:Below w.heap.size w u)=>sound_any (sv i) (some (Ad (G i) 0)) (S.sc i) (by omega) u (hvl.later h);obtain⟨lf,sd,HE⟩:∃lf sd,Hid (Zdi (S.bk i).o 3=lf∧sndU (sv i) (sv i).length=sd):=⟨_,_,Zab ⟨rfl,rfl⟩⟩;simp only[HE.out.1] at hlf;simp only[HE.out.2] at hsd;rw[HE.out.1,HE.out.2]
 have i0:(0:Int)≤(i:Int):=by omega
 have i1:(i:Int)<2:=by omega
 have i2:(i:Int)<3:=by omega
 have HX1:Hid (Below w.heap.size w (w.alloc (.cells #[Vi 0,Vi 0,Vi 0] 128))∧∃cs:List Value,cs.length=3∧Blk 128 (w.alloc (.cells #[Vi 0,Vi 0,Vi 0] 128)) w.heap.size cs):=Zab ⟨Zaa _ _,[Vi 0,Vi 0,Vi 0],rfl,Blk.new w _ [Vi 0,Vi 0,Vi 0]⟩;have HY:Hid (w.heap.size≤w.heap.size):=Zab (Nat.le_refl _);clear hf hvl HE hi hl
 go_enter func109,ntmps109
 go_upto_region 1 with fail;generalize w.alloc (.cells #[Vi 0,Vi 0,Vi 0] 128)=v at *;have HX0:Hid (Below w.heap.size w v.drew∧∃cs:List Value,cs.length=3∧Blk 128 v.drew w.heap.size cs):=Zab (And.intro HX1.out.1.drew (HX1.out.2.elim fun cs h=>⟨cs,h.1,h.2.later (Below.refl _ _).drew⟩));clear HX1;refine wp_region_held_drew (S:=fun u=>(Below w.heap.size w u∧∃cs:List Value,cs.length=3∧Blk 128 u w.heap.size cs)) (by kernel_rfl) (HX0.out) (fun _=>?_);have HS0:Hid ((Below w.heap.size w v.drew∧∃cs:List Value,cs.length=3∧Blk 128 v.drew w.heap.size cs)):=Zab (HX0.out);refine Tq 0 HS0.out ?_;simp only[Act.put,Ly];refine Tq 1 HS0.out ?_;simp only[Act.put,Ly];refine Tq 2 HS0.out ?_;simp only[Act.put,Ly];refine Tq 3 HS0.out ?_;simp only[Act.put,Ly];refine Tq 4 HS0.out ?_;simp only[Act.put,Ly];refine Tq 5 HS0.out ?_;simp only[Act.put,Ly];refine Tk 6 rfl (yieldsIf_load_mid (by rfl) 33 (.tmp 10) rfl B (i*7) rfl [Vi ((S.bk i).b 0),Vi ((S.bk i).b 1),Vi ((S.bk i).b 2),.bool ((S.bk i).o 0),.bool ((S.bk i).o 1),.bool ((S.bk i).o 2),Vi (S.bk i).l] _ (fun w hSw=>Zae HG.out hSw.1) underlying33 rfl Zej) HS0.out ?_;simp only[Act.put,Ly];refine Tq 8 HS0.out ?_;simp only[Act.put,Ly];refine Tq 9 HS0.out ?_;simp only[Act.put,Ly];refine Tq 10 HS0.out ?_;simp only[Act.put,Ly];refine Tq 11 HS0.out ?_;simp only[Act.put,Ly];refine Tq 12 HS0.out ?_;simp only[Act.put,Ly];refine Tq 13 HS0.out ?_;simp only[Act.put,Ly];refine Th 14 rfl (by intro w hSw;(try dsimp only at hSw);have y:=cell_later hSw.1 hsv;clear hSw;go_simp;(try with_reducible rfl)) HS0.out ?_;simp only[Act.put,Ly];refine Tq 16 HS0.out ?_;simp only[Act.put,Ly];refine Tq 17 HS0.out ?_;simp only[Act.put,Ly];refine Tq 18 HS0.out ?_;simp only[Act.put,Ly];refine Tq 19 HS0.out ?_;simp only[Act.put,Ly];refine Tq 20 HS0.out ?_;simp only[Act.put,Ly];refine Tq 21 HS0.out ?_;simp only[Act.put,Ly];refine Tq 22 HS0.out ?_;simp only[Act.put,Ly];refine Th 23 rfl (by intro w hSw;(try dsimp only at hSw);have y:=cell_later hSw.1 hsf;clear hSw;go_simp;(try with_reducible rfl)) HS0.out ?_;simp only[Act.put,Ly];refine Ra 7 (fun K hK=>?_);go_simp;refine Sb (hlf _) fun u1 hb=>?_;have HS1:=Zab (hS_later hb HS0.out);clear hb;go_wp2_with fail;refine hK.out _ _ HS1.out (fun _=>?_);clear hK K;(try simp only[Act.put])
 refine Ra 15 (fun K hK=>?_);go_simp;refine Sb (hsd _ HS1.out.1) fun u2 hb=>?_;have HS2:=Zab (hS_later hb HS1.out);clear hb;go_wp2_with fail;refine hK.out _ _ HS2.out (fun _=>?_);clear hK K;(try simp only[Act.put]);clear HS1;refine Tq 24 HS2.out ?_;simp only[Act.put,Ly];refine Ra 25 (fun K hK=>?_);rw[if_pos (by rfl)];refine Zam 128 (.tmp 4) (.tmp 29) rfl w.heap.size (0) #[Vi lf,Vi sd,Vi (C.a i 4)] rfl rfl (by obtain⟨cs,h1,h2⟩:=HS2.out.2;exact h2.there (by rw[h1];exact Nat.le_refl _)) infoH3 (Zaq _ rfl) rfl ?_;have HS3:=Zab (hS_put HY.out [Vi lf,Vi sd,Vi (C.a i 4)] 0 HS2.out);have HRR:=Zab (World.rangeAt_setCells_same _ w.heap.size 0 [Vi lf,Vi sd,Vi (C.a i 4)] (by obtain⟨cs,h1,h2⟩:=HS2.out.2;exact h2.there (by rw[h1];exact Nat.le_refl _)));have HBB:=Zab (Zag [Vi lf,Vi sd,Vi (C.a i 4)] 0 _ HS2.out.1 HY.out);refine hK.out _ _ HS3.out (fun _=>?_);clear hK K;clear HS2;refine wpAnyH_done (by kernel_rfl) ?_ _;go_simp;refine Zby (by assumption) ?_;go_wp2_with fail;exact bodyPost_ret (v:=.agg #[Vi lf,Vi sd,Vi (C.a i 4)]) (res_health _ _ w.heap.size [Vi lf,Vi sd,Vi (C.a i 4)] rfl HRR.out rfl) rfl ⟨rfl,HBB.out⟩
theorem infoK5:(prog.info? 110).map (·.size)=some 5:=by kernel_rfl
theorem Zhk{t:TypeId}{w u u':World}{Y:Nat}(hb:Below u.heap.size u u')(h:Below w.heap.size w u∧∃cs:List Value,cs.length=5∧Blk t u Y cs):Below w.heap.size w u'∧∃cs:List Value,cs.length=5∧Blk t u' Y cs:=
 ⟨Zac h.1 hb,h.2.elim fun cs k=>⟨cs,k.1,k.2.later hb⟩⟩
theorem hA_put{t:TypeId}{w u:World}{Y:Nat}(hY:w.heap.size≤Y)(vs:List Value)(o:Nat)(h:Below w.heap.size w u∧∃cs:List Value,cs.length=5∧Blk t u Y cs):Below w.heap.size w (u.setCells Y o vs)∧∃cs:List Value,cs.length=5∧Blk t (u.setCells Y o vs) Y cs:=
 ⟨Zag vs o u h.1 hY,h.2.elim fun cs k=>⟨_,by rw[putL_len];exact k.1,Blk.setCells vs o u cs k.2⟩⟩
theorem field_is(x0 x1:Value)(w:World):(Instr.field 131 (.agg #[x0,x1]) 1).run prog w=.ok x1 w:=by kernel_rfl
theorem res_ask(tmps:Array Value)(U:World)(Y:Nat)(cs:List Value)(h2:tmps.getD 4 undef=.pointer (some (Ad Y 0)))(hR:U.rangeAt Y 0 cs)(hn:cs.length=5):
 (results Tryz.f166 tmps).run prog U=.ok (.agg cs.toArray) U:=by
 have h3:tmps[4]?.getD undef=.pointer (some (Ad Y 0)):=by simpa using h2
 simp[results,results166,h3,asAddr,run_loadVar_mid U Y 0 110 cs _ hR underlying110 rfl (by rw[infoK5,hn])]
theorem ask_ok{K:Nat}{wz w:World}{B:Nat}{S:FS}{C:CR}{a:Option Addr}{cap:Nat}{l:List Rd}{sv:Nat→List Sv}{G:Nat→Nat}(hf:FR K wz w B S C a cap l sv G)(i:Nat)(hi:i<2)(hl:(sv i).length≤9)(hs:∀k,k<(sv i).length→-2147483647≤(svAt (sv i) k).1∧(svAt (sv i) k).1≤2147483647)
 (h4:2≤C.a i 4∧C.a i 4≤4) (h5:1≤C.a i 5∧C.a i 5≤1000) (h3:0≤C.a i 3∧C.a i 3≤1000) (h7:0≤C.a i 7∧C.a i 7≤1000) (h6:1≤C.a i 6∧C.a i 6≤1000):
 Calls prog 166 #[.pointer (some (Ad B 0)),Vi i] w fun e w'=>e=.returned (.agg #[Vi (Zal (smp l (32+(i:Int)) 3).2 (-100) 100),Vi (S.bk i).l,Vi (S.bk 2).l,Vi S.n,Vi (Zal (smU (sv i) (sv i).length) (-((C.a i 4-1)*C.a i 5)) ((C.a i 4-1)*C.a i 5))])∧Below w.heap.size w w':=by
 have hgr:=Zdd (C.a i 0) (C.a i 1) (C.a i 2) (C.a i 3) (C.a i 4) (C.a i 5) (C.a i 6) (C.a i 7) (C.a i 8) (C.a i 9) (C.a i 10) (C.a i 11) (C.a i 14) (C.p i) (C.q i) (C.al i).length (C.zl i).length (C.cn i) (C.cm i) h4 h5 h3 h7 h6;have hmo:1≤((C.a i 4-1)*C.a i 5)∧((C.a i 4-1)*C.a i 5)≤3000:=⟨by have:=Int.mul_le_mul (show 1≤C.a i 4-1 by omega) h5.1 (by omega) (by omega);omega,by have:=Int.mul_le_mul (show C.a i 4-1≤3 by omega) h5.2 (by omega) (by omega);omega⟩;have hsv:=(hf.blk.cell (Zja S C _ hi)).1;have hla:=(hf.blk.cell (fr_last S C _ (show i<3 by omega))).1;have hsp:w.cell? (Ad B 20)=some (Vi (S.bk 2).l):=(hf.blk.cell (fr_last S C _ (show 2<3 by omega))).1;have hlw:=(hf.blk.cell (fr_law S C _)).1;rw[(hf.servo i hi).1,(hf.servo i hi).2.1] at hsv;have hvl:=hf.vls hi;rw[(hf.servo i hi).1] at hvl;have hsm:=fun u (h:Below w.heap.size w u)=>shareSum_any (sv i) (some (Ad (G i) 0)) (S.sc i) hl hs u (hvl.later h);have hsy:=fun u (h:Below w.heap.size w u)=>Zhh B a cap l (32+(i:Int)) 3 hf.many u (cell_later h hf.said) (hf.rds.later h);generalize ((C.a i 4-1)*C.a i 5)=mo at *;have hfm:=field_gmost;have hfi:=field_is;have hc1:=Zay (smp l (32+(i:Int)) 3).2 (-100) 100;have hc2:=Zay (smU (sv i) (sv i).length) (-mo) mo;obtain⟨kk,pv,HE⟩:∃kk pv,Hid ((Zal (smp l (32+(i:Int)) 3).2 (-100) 100)=kk∧Zal (smU (sv i) (sv i).length) (-mo) mo=pv):=⟨_,_,Zab ⟨rfl,rfl⟩⟩;simp only[HE.out.1] at hc1;simp only[HE.out.2] at hc2;rw[HE.out.1,HE.out.2];generalize smU (sv i) (sv i).length=sm at *;generalize (smp l (32+(i:Int)) 3).2=sz at *;generalize (smp l (32+(i:Int)) 3).1=st at *;have HAX:=Zab ((hf.later (Zaa w (.cells #[Vi 0,Vi 0,Vi 0,Vi 0,Vi 0] 110))).blk.sub (30+i*15) 15);rw[fr_axis S C _ hi] at HAX
 have i0:(0:Int)≤(i:Int):=by omega
 have i1:(i:Int)<2:=by omega
 have i2:(i:Int)<3:=by omega
 have m0:=hmo.1;have m1:=hmo.2;have wA1:=Wr (32+(i:Int));have wB1:=Wr (-mo);have HX1:Hid (Below w.heap.size w (w.alloc (.cells #[Vi 0,Vi 0,Vi 0,Vi 0,Vi 0] 110))∧∃cs:List Value,cs.length=5∧Blk 110 (w.alloc (.cells #[Vi 0,Vi 0,Vi 0,Vi 0,Vi 0] 110)) w.heap.size cs):=Zab ⟨Zaa _ _,[Vi 0,Vi 0,Vi 0,Vi 0,Vi 0],rfl,Blk.new w _ [Vi 0,Vi 0,Vi 0,Vi 0,Vi 0]⟩;have HY:Hid (w.heap.size≤w.heap.size):=Zab (Nat.le_refl _);clear hf hvl HE hi hl hs h4 h5 h3 h7 h6 hmo
 go_enter func166,ntmps166
 go_upto_region 1 with fail;generalize w.alloc (.cells #[Vi 0,Vi 0,Vi 0,Vi 0,Vi 0] 110)=v0 at*
 go_upto_region 2 with(first
  |(refine Lq 26 _ rfl ?_;refine wpList_load_mid rfl 26 (.tmp 11) rfl B (30+i*15) rfl (axL C i) _ HAX.out underlying26 rfl Zav ?_)
  |(go_at_call 170;refine Sb (hgr _) fun v hb=>?_;have HX2:=Zab (Zhk hb HX1.out);clear hb HX1))
 clear HAX hgr;have HX0:Hid (Below w.heap.size w v.drew∧∃cs:List Value,cs.length=5∧Blk 110 v.drew w.heap.size cs):=Zab (Zhk (Below.refl _ _).drew HX2.out);clear HX2;refine wp_region_held_drew (S:=fun u=>(Below w.heap.size w u∧∃cs:List Value,cs.length=5∧Blk 110 u w.heap.size cs)) (by kernel_rfl) (HX0.out) (fun _=>?_);have HS0:Hid ((Below w.heap.size w v.drew∧∃cs:List Value,cs.length=5∧Blk 110 v.drew w.heap.size cs)):=Zab (HX0.out);refine Tq 0 HS0.out ?_;simp only[Act.put,Ly];refine Tq 1 HS0.out ?_;simp only[Act.put,Ly];refine Tq 2 HS0.out ?_;simp only[Act.put,Ly];refine Tq 6 HS0.out ?_;simp only[Act.put,Ly];refine Tq 7 HS0.out ?_;simp only[Act.put,Ly];refine Tq 8 HS0.out ?_;simp only[Act.put,Ly];refine Tq 9 HS0.out ?_;simp only[Act.put,Ly];refine Tq 10 HS0.out ?_;simp only[Act.put,Ly];refine Tq 11 HS0.out ?_;simp only[Act.put,Ly];refine Tq 12 HS0.out ?_;simp only[Act.put,Ly];refine Th 13 rfl (by intro w hSw;(try dsimp only at hSw);have y:=cell_later hSw.1 hla;clear hSw;go_simp;(try with_reducible rfl)) HS0.out ?_;simp only[Act.put,Ly];refine Tq 14 HS0.out ?_;simp only[Act.put,Ly];refine Tq 15 HS0.out ?_;simp only[Act.put,Ly];refine Tq 16 HS0.out ?_;simp only[Act.put,Ly];refine Tq 17 HS0.out ?_;simp only[Act.put,Ly];refine Tq 18 HS0.out ?_;simp only[Act.put,Ly];refine Tq 19 HS0.out ?_;simp only[Act.put,Ly];refine Th 20 rfl (by intro w hSw;(try dsimp only at hSw);have y:=cell_later hSw.1 hsp;clear hSw;go_simp;(try with_reducible rfl)) HS0.out ?_;simp only[Act.put,Ly];refine Tq 21 HS0.out ?_;simp only[Act.put,Ly];refine Tq 22 HS0.out ?_;simp only[Act.put,Ly];refine Tq 23 HS0.out ?_;simp only[Act.put,Ly];refine Tq 24 HS0.out ?_;simp only[Act.put,Ly];refine Th 25 rfl (by intro w hSw;(try dsimp only at hSw);have y:=cell_later hSw.1 hlw;clear hSw;go_simp;(try with_reducible rfl)) HS0.out ?_;simp only[Act.put,Ly];refine Tq 26 HS0.out ?_;simp only[Act.put,Ly];refine Tq 27 HS0.out ?_;simp only[Act.put,Ly];refine Tq 28 HS0.out ?_;simp only[Act.put,Ly];refine Tq 29 HS0.out ?_;simp only[Act.put,Ly];refine Tq 30 HS0.out ?_;simp only[Act.put,Ly];refine Tq 31 HS0.out ?_;simp only[Act.put,Ly];refine Th 32 rfl (by intro w hSw;(try dsimp only at hSw);have y:=cell_later hSw.1 hsv;clear hSw;go_simp;(try with_reducible rfl)) HS0.out ?_;simp only[Act.put,Ly]
 refine Tq 34 HS0.out ?_;simp only[Act.put,Ly];refine Tq 35 HS0.out ?_;simp only[Act.put,Ly];refine Tq 36 HS0.out ?_;simp only[Act.put,Ly];refine Ra 3 (fun K hK=>?_);go_simp;refine Sb (hsy _ HS0.out.1) fun u1 hb=>?_;have HS1:=Zab (Zhk hb HS0.out);clear hb;go_wp2_with fail;refine hK.out _ _ HS1.out (fun _=>?_);clear hK K;(try simp only[Act.put]);refine Tq 4 HS1.out ?_;simp only[Act.put,Ly];refine Ra 5 (fun K hK=>?_);go_simp;refine Sb (hc1 _) fun u2 hq=>?_
 have hb:Below u1.heap.size u1 u2:=by rw[hq];exact Below.refl _ _
 clear hq;have HS2:=Zab (Zhk hb HS1.out);clear hb;go_wp2_with fail;refine hK.out _ _ HS2.out (fun _=>?_);clear hK K;(try simp only[Act.put]);clear HS1;refine Ra 33 (fun K hK=>?_);go_simp;refine Sb (hsm _ HS2.out.1) fun u3 hb=>?_;have HS3:=Zab (Zhk hb HS2.out);clear hb;go_wp2_with fail;refine hK.out _ _ HS3.out (fun _=>?_);clear hK K;(try simp only[Act.put]);clear HS2;refine Ra 37 (fun K hK=>?_);go_simp;refine Sb (hc2 _) fun u4 hq=>?_
 have hb:Below u3.heap.size u3 u4:=by rw[hq];exact Below.refl _ _
 clear hq;have HS4:=Zab (Zhk hb HS3.out);clear hb;go_wp2_with fail;refine hK.out _ _ HS4.out (fun _=>?_);clear hK K;(try simp only[Act.put]);clear HS3;refine Tq 38 HS4.out ?_;simp only[Act.put,Ly];refine Ra 39 (fun K hK=>?_);rw[if_pos (by rfl)];refine Zam 110 (.tmp 4) (.tmp 53) rfl w.heap.size (0) #[Vi kk,Vi (S.bk i).l,Vi (S.bk 2).l,Vi S.n,Vi pv] rfl rfl (by obtain⟨cs,h1,h2⟩:=HS4.out.2;exact h2.there (by rw[h1];exact Nat.le_refl _)) infoK5 (Zaq _ rfl) rfl ?_;have HS5:=Zab (hA_put HY.out [Vi kk,Vi (S.bk i).l,Vi (S.bk 2).l,Vi S.n,Vi pv] 0 HS4.out);have HRR:=Zab (World.rangeAt_setCells_same _ w.heap.size 0 [Vi kk,Vi (S.bk i).l,Vi (S.bk 2).l,Vi S.n,Vi pv] (by obtain⟨cs,h1,h2⟩:=HS4.out.2;exact h2.there (by rw[h1];exact Nat.le_refl _)));have HBB:=Zab (Zag [Vi kk,Vi (S.bk i).l,Vi (S.bk 2).l,Vi S.n,Vi pv] 0 _ HS4.out.1 HY.out);refine hK.out _ _ HS5.out (fun _=>?_);clear hK K;clear HS4;refine wpAnyH_done (by kernel_rfl) ?_ _;go_simp;refine Zby (by assumption) ?_;go_wp2_with fail;exact bodyPost_ret (v:=.agg #[Vi kk,Vi (S.bk i).l,Vi (S.bk 2).l,Vi S.n,Vi pv]) (res_ask _ _ w.heap.size [Vi kk,Vi (S.bk i).l,Vi (S.bk 2).l,Vi S.n,Vi pv] rfl HRR.out rfl) rfl ⟨rfl,HBB.out⟩
end Go.Proofs.YtnfdfiholcelaaaGreatDoor
