
import Derived.Test.YtnfdfiholcelaaaGreatDoorJp22
import Derived.Test.YtnfdfiholcelaaaGreatDoorJp25
set_option maxRecDepth 100000
set_option maxHeartbeats 20000000
namespace Go.Proofs.YtnfdfiholcelaaaGreatDoor
open Go.RowKit Plain Tryz
variable {B K V cap g i j k:Nat}{C:CR}{L:List Sv}{R T hi lo p room s:Int}{S:FS}{a:Option Addr}{l:List Rd}{sv:Nat→List Sv}{u w wz:World}{x:Value}
def levF(T R:Int)(l:List Sv)(s:Int):Nat→Int
 |0=>-T
 |n+1=>if tot T R l (-T+((n+1:Nat):Int))≤s then -T+((n+1:Nat):Int) else levF T R l s n
def levI(T R:Int)(l:List Sv)(s:Int):Int:=levF T R l s (2*T).toNat
theorem levF_is{l:List Sv}(h0:tot T R l (-T)≤s):∀n:Nat,-T+(n:Int)≤T→(-T+(n:Int)<T→s<tot T R l (-T+(n:Int)+1))→IsLev T R l s (levF T R l s n)
 |0,h1,h2=>by
  show IsLev T R l s (-T)
  exact⟨Int.le_refl _,by simpa using h1,h0,fun h=>by simpa using h2 (by simpa using h)⟩
 |n+1,h1,h2=>by
  unfold levF
  split
  · rename_i c
    exact⟨by omega,h1,c,h2⟩
  · rename_i c
    exact levF_is h0 n (by omega) (fun _=>by rw[show -T+(n:Int)+1=-T+((n+1:Nat):Int) by omega];omega)
theorem levI_is{l:List Sv}(hT:0≤T)(h0:tot T R l (-T)≤s):IsLev T R l s (levI T R l s):=levF_is h0 _ (by omega) (fun h=>by omega)
def hiF(R p lo room:Int):Nat→Int
 |0=>lo
 |n+1=>if bk R (lo+((n+1:Nat):Int)+p)≤room then lo+((n+1:Nat):Int) else hiF R p lo room n
def hiI(R p lo hi room:Int):Int:=hiF R p lo room (hi-lo).toNat
theorem hiF_is:∀n:Nat,lo+(n:Int)≤hi→(∀s,lo+(n:Int)<s→s≤hi→room<bk R (s+p))→IsHi R p lo hi room (hiF R p lo room n)
 |0,h1,h2=>by
  show IsHi R p lo hi room lo
  exact⟨Int.le_refl _,by simpa using h1,.inl rfl,fun s h=>h2 s (by simpa using h)⟩
 |n+1,h1,h2=>by
  unfold hiF
  split
  · rename_i c
    exact⟨by omega,h1,.inr c,h2⟩
  · rename_i c
    refine hiF_is n (by omega) (fun s h3 h4=>?_)
    by_cases e:s=lo+((n+1:Nat):Int)
    · subst e;omega
    · exact h2 s (by omega) h4
theorem hiI_is{h:Int}(H:IsHi R p lo hi room h):hiI R p lo hi room=h:=by
 have a:=H.1;have b:=H.2.1;exact(hiF_is (hi-lo).toNat (by omega) (fun s h3 h4=>by omega)).only H
def moI(C:CR)(i:Nat):Int:=(C.a i 4-1)*C.a i 5
def raI(C:CR)(i:Nat):Int:=(C.a i 4-1)*C.a i 6
def puI(C:CR)(i:Nat):Int:=C.a i 3+C.a i 7
def skI(l:List Rd)(i:Nat):Int:=Ze (smp l (32+(i:Int)) 3).2 (-100) 100
def pvI(C:CR)(i:Nat)(L:List Sv):Int:=Ze (smU L L.length) (-moI C i) (moI C i)
def wtM(C:CR)(i:Nat)(h:Int×Int×Int)(k x v n:Int)(L:List Sv):Int:=wX (C.a i 0) (C.a i 1) (C.a i 11) (moI C i) (C.al i) (C.zl i) h.1 h.2.1 h.2.2 k x v n (pvI C i L)
def haM(C:CR)(i:Nat)(h:Int×Int×Int)(k x n:Int):Int:=wA (C.a i 0) (C.a i 1) (C.a i 11) h.1 h.2.2 k x n
def hdM(C:CR)(i:Nat)(h:Int×Int×Int)(k x v n:Int)(L:List Sv):Int:=wD (C.a i 0) (C.a i 1) (C.a i 11) (moI C i) (C.al i) (C.zl i) h.1 h.2.1 h.2.2 k x v n (pvI C i L)
def bdL(C:CR)(i:Nat)(x n q:Int):Int:=if betw n 0 1 then -hiI (raI C i) (puI C i) (-Yp (moI C i) (raI C i) q) (-Yj (moI C i) (raI C i) q) (Ze x (-2000000) 2000000-C.a i 2-C.a i 0) else q-raI C i
def bdH(C:CR)(i:Nat)(x n q:Int):Int:=if betw n 0 1 then hiI (raI C i) (puI C i) (Yj (moI C i) (raI C i) q) (Yp (moI C i) (raI C i) q) (C.a i 1-C.a i 2-Ze x (-2000000) 2000000) else q+raI C i
def smI(T R:Int)(L:List Sv)(s:Int):Int:=Ze s (tot T R L (-T)) (tot T R L T)
def plI(T R:Int)(L:List Sv)(s:Int):List Int:=dlU T R L (levI T R L (smI T R L s)) (smI T R L s-tot T R L (levI T R L (smI T R L s))) L.length
theorem plI_len(T R:Int)(L:List Sv)(s:Int):(plI T R L s).length=L.length:=Xc _ _ _ _ _ _
def sik(L:List Sv)(p:List Int)(k:Nat):List Sv:=(List.range L.length).map fun j=>if j<k then(p.getD j 0,(svAt L j).2) else svAt L j
theorem sik_len(L:List Sv)(p:List Int)(k:Nat):(sik L p k).length=L.length:=by simp[sik]
theorem sik_zero(L:List Sv)(p:List Int):sik L p 0=L:=by
 apply List.ext_getElem
 · simp[sik]
 · intro j h1 h2
   simp[sik,svAt,h2]
theorem sik_at(L:List Sv)(p:List Int)(hk:k<L.length):svAt (sik L p k) k=svAt L k:=by
 simp[sik,svAt,hk]
theorem sik_step(L:List Sv)(p:List Int):(sik L p k).set k (p.getD k 0,(svAt L k).2)=sik L p (k+1):=by
 apply List.ext_getElem
 · simp[sik]
 · intro j h1 h2;simp only[sik,List.length_set,List.length_map,List.length_range] at h1;rw[List.getElem_set]
   by_cases e:k=j
   · subst e
     simp[sik]
   · rw[if_neg e];simp only[sik,List.getElem_map,List.getElem_range]
     by_cases h3:j<k
     · rw[if_pos h3,if_pos (by omega)]
     · rw[if_neg h3,if_neg (by omega)]
def goM(C:CR)(i:Nat)(h:Int×Int×Int)(k x v n:Int)(L:List Sv):Int:=Ze (wtM C i h k x v n L) (bdL C i x n (pvI C i L)) (bdH C i x n (pvI C i L))
def svM(C:CR)(i:Nat)(h:Int×Int×Int)(k x v n:Int)(L:List Sv):List Sv:=sik L (plI (C.a i 5) (C.a i 6) L (goM C i h k x v n L)) L.length
def hoM(C:CR)(i:Nat)(h:Int×Int×Int)(k x v n:Int)(L:List Sv):Int×Int×Int:=
 (haM C i h k x n,toD (C.a i 14) (moI C i) (haM C i h k x n) (hdM C i h k x v n L) x n (wtM C i h k x v n L) (smU (svM C i h k x v n L) L.length),n)
theorem hoE_want{L H U B M:Int}{al zl:List Int}{A D W k n q:Int}(p v:Int)(h:hoE L H U B M al zl A D W k n q=0):hoE L H U B M al zl (wA L H U A W k p n) (wD L H U M al zl A D W k p v n q) n k n q=0:=by
 obtain⟨e1,e2,e3⟩:=Wh h;obtain⟨e4,e5,e6,_⟩:=X8 e1;obtain⟨⟨l0,l1⟩,⟨u0,u1⟩,_,_,m0',m1'⟩:=X7 e4;obtain⟨⟨a0,a1⟩,⟨d0,d1⟩,w0,w1⟩:=Up e2
 have hn:betw n 0 3=true:=by simp only[asB,Bool.and_eq_true] at e3;exact e3.1.2
 have ha:betw (wA L H U A W k p n) L H=true:=by
  unfold wA a2I
  have:=Xk (a1I L H A W p n+hunI k U) (show L≤H by omega)
  split<;>simp[betw]<;>omega
 have hd:betw (wD L H U M al zl A D W k p v n q) (-M) M=true:=by
  unfold wD d2I
  have:=Xk (q-ppI L H U al zl A W k p v n) (show -M≤M by omega)
  split
  · split<;>simp[betw]<;>omega
  · simp[betw];omega
 unfold hoE
 rw[if_pos e1,if_pos (by simp only[stB,ha,hd,hn,Bool.and_self]),if_pos e3]
abbrev Qau(C:CR)(i:Nat):Array Value:=#[Vi (C.a i 0),Vi (C.a i 1),Vi (C.a i 11),Vi (C.a i 14),Vi (moI C i),.slice (C.p i) (C.al i).length (C.cn i),.slice (C.q i) (C.zl i).length (C.cm i)]
abbrev Qbm(C:CR)(i:Nat):Array Value:=#[Vi (C.a i 0),Vi (C.a i 1),Vi (C.a i 2),Vi (puI C i),Vi (moI C i),Vi (raI C i)]
theorem Xh:(prog.info? 38).map (·.size)=some 3:=by kernel_rfl
theorem infoP2:(prog.info? 105).map (·.size)=some 2:=by kernel_rfl
theorem svL_putIs(x:Int):∀(L:List Sv) (k:Nat),k<L.length→(svL L).set (k*3) (Vi x)=svL (L.set k (x,(svAt L k).2))
 |[],_,h=>by simp at h
 |s::r,0,_=>rfl
 |s::r,k+1,h=>by
  have:=svL_putIs x r k (by simpa using h);rw[show(k+1)*3=k*3+1+1+1 by omega];simp only[svL,List.set_cons_succ,this]
  simp[svAt]
theorem FR.putIs{w0:World}{G:Nat→Nat}(h:FR K w0 u B S C a cap l sv G)(hi:i<2)(hk:k<(sv i).length)(x:Int):FR K w0 (u.setCell (Ad (G i) (k*3)) (Vi x)) B S C a cap l (upd sv i ((sv i).set k (x,(svAt (sv i) k).2))) G:=by
 have hs:=h.servo i hi;have e:u.setCell (Ad (G i) (k*3)) (Vi x)=u.setCells (G i) (k*3) [Vi x]:=rfl;rw[e];refine⟨Blk.farCells hs.2.2.2.2.1.symm _ _ _ h.blk,Xn hs.2.2.2.2.2 _ _ _ h.rds,Zr _ _ _ h.low hs.2.2.2.1,h.base,h.far,fun j hj=>?_,h.two,h.many,fun b h1 h2 h3 h4=>(heap_far (show b≠G i by rcases Qtw i with rfl|rfl<;>assumption) _ _ _).trans (h.oth b h1 h2 h3 h4)⟩;have hsj:=h.servo j hj
 by_cases e:j=i
 · subst e;rw[Zp];exact⟨hsj.1,by rw[List.length_set];exact hsj.2.1,svL_putIs x (sv j) k hk▸Blk.setCells [Vi x] _ _ _ hsj.2.2.1,hsj.2.2.2⟩
 · rw[Yn sv _ e]
   have hG:G j≠G i:=by
    have:=h.two
    rcases(show(j=0∧i=1)∨(j=1∧i=0) by omega) with⟨rfl,rfl⟩|⟨rfl,rfl⟩
    · exact this
    · exact this.symm
   exact⟨hsj.1,hsj.2.1,Blk.farCells hG _ _ _ hsj.2.2.1,hsj.2.2.2⟩
theorem plI_bd{S C:Int}(h:AllOk T R S C L)(s:Int)(hk:k<L.length):-2147483647≤(plI T R L s).getD k 0∧(plI T R L s).getD k 0≤2147483647:=by
 have g:∀(v s:Int) n k,k<n→(dlU T R L v s n).getD k 0=dlI T R L v s k:=by
  intro v s n
  induction n with
  |zero=>intro k h;omega
  |succ n ih=>
   intro k h;rw[dlU,List.getD_eq_getElem?_getD]
   by_cases e:k=n
   · subst e;rw[List.getElem?_append_right (by rw[Xc];omega),Xc];simp
   · rw[List.getElem?_append_left (by rw[Xc];omega),←List.getD_eq_getElem?_getD];exact ih k (by omega)
 unfold plI
 rw[g _ _ _ _ hk];have a:=tk_bd h hk (levI T R L (smI T R L s))
 unfold dlI
 split<;>omega
theorem low_up(h:Below K wz w)(hk:K≤w.heap.size)(hb:Bw w u):Below K wz u:=h.trans (hb.mono hk)
theorem upd_sik0(sv:Nat→List Sv)(i:Nat)(p:List Int):upd sv i (sik (sv i) p 0)=sv:=by
 funext j;rw[sik_zero];unfold upd;split
 · rename_i h;rw[h]
 · rfl
theorem svL_get:∀(L:List Sv) (k:Nat),k<L.length→(svL L)[k*3]?=some (Vi (svAt L k).1)
 |[],_,h=>by simp at h
 |s::r,0,_=>rfl
 |s::r,k+1,h=>by
  have:=svL_get r k (by simpa using h);rw[show(k+1)*3=k*3+1+1+1 by omega]
  simpa[svL,svAt] using this
theorem sik_end(L:List Sv)(p:List Int)(hk:k<L.length):svAt (sik L p L.length) k=(p.getD k 0,(svAt L k).2):=by
 simp[sik,svAt,hk]
theorem ils_get{p:List Int}(h:ILs u (some (Ad g 0)) p)(hk:k<p.length):u.cell? (Ad g k)=some (Vi (p.getD k 0)):=by
 rcases h with h|⟨b,off,h,hc⟩
 · subst h;simp at hk
 · simp only[Option.some.injEq,Addr.mk.injEq] at h;obtain⟨rfl,rfl,_⟩:=h
   simpa using hc k hk
theorem ils_far{p:List Int}(hg:g≠V)(h:ILs u (some (Ad g 0)) p):ILs (u.setCell (Ad V j) x) (some (Ad g 0)) p:=by
 rcases h with h|⟨b,off,h,hc⟩
 · exact .inl h
 · simp only[Option.some.injEq,Addr.mk.injEq] at h;obtain⟨rfl,rfl,_⟩:=h;refine .inr ⟨g,0,rfl,fun k hk=>?_⟩
   show World.cell? _ _=_
   rw[World.cell?_setCell_other _ _ _ _ (fun e=>hg (congrArg Addr.block e).symm)];exact hc k hk
theorem Blk.farCell{t:TypeId}{cs:List Value}(hV:V≠g)(h:Blk t u V cs):Blk t (u.setCell (Ad g j) x) V cs:=Blk.farCells hV [x] j u h
structure MvOK (K:Nat) (wz:World) (C:CR) (S:FS) (l:List Rd) (sv:Nat→List Sv) (i:Nat):Prop where
 n1:1≤(sv i).length
 n4:(sv i).length≤4
 m0:(C.al i).length≤9223372036854775807
 m1:(C.zl i).length≤9223372036854775807
 mc:(C.al i).length≤C.cn i
 line:∀u,Below K wz u→Lst u (C.p i) (C.al i)∧Lst u (C.q i) (C.zl i)
 ok:AllOk (C.a i 5) (C.a i 6) (C.a i 7) (C.a i 10) (sv i)
 h4:2≤C.a i 4∧C.a i 4≤4
 h5:1≤C.a i 5∧C.a i 5≤1000
 h3:0≤C.a i 3∧C.a i 3≤1000
 h7:0≤C.a i 7∧C.a i 7≤1000
 h6:1≤C.a i 6∧C.a i 6≤1000
 ho:hoE (C.a i 0) (C.a i 1) (C.a i 11) (C.a i 14) (moI C i) (C.al i) (C.zl i) (S.hd i).1 (S.hd i).2.1 (S.hd i).2.2 (skI l i) S.n (pvI C i (sv i))=0
 gm:gmE (C.a i 0) (C.a i 1) (C.a i 2) (puI C i) (moI C i) (raI C i) (pvI C i (sv i))=0
section
variable {K : Nat} {wz : World} {C : CR} {S : FS} {l : List Rd} {sv : Nat → List Sv} {i : Nat}
theorem MvOK.mo(h:MvOK K wz C S l sv i):1≤moI C i∧moI C i≤3000:=by
 have h4:=h.h4;have h5:=h.h5
 unfold moI
 exact⟨by have:=Int.mul_le_mul (show 1≤C.a i 4-1 by omega) h5.1 (by omega) (by omega);omega,by have:=Int.mul_le_mul (show C.a i 4-1≤3 by omega) h5.2 (by omega) (by omega);omega⟩
theorem MvOK.ra(h:MvOK K wz C S l sv i):1≤raI C i∧raI C i≤3000:=by
 have h4:=h.h4;have h6:=h.h6
 unfold raI
 exact⟨by have:=Int.mul_le_mul (show 1≤C.a i 4-1 by omega) h6.1 (by omega) (by omega);omega,by have:=Int.mul_le_mul (show C.a i 4-1≤3 by omega) h6.2 (by omega) (by omega);omega⟩
theorem MvOK.is(h:MvOK K wz C S l sv i):∀k,k<(sv i).length→-2147483647≤(svAt (sv i) k).1∧(svAt (sv i) k).1≤2147483647:=fun k hk=>by
 have a:=Yf h.ok.1;have b:=Yv (h.ok.2 k hk)
 omega
theorem MvOK.bounds(h:MvOK K wz C S l sv i)(k p v:Int)(w:World):
 Calls prog 169 #[.agg (Qbm C i),.agg #[Vi k,Vi p,Vi v,Vi S.n,Vi (pvI C i (sv i))]] w (Rt w (.tuple #[.agg #[Vi (bdL C i p S.n (pvI C i (sv i))),Vi (bdH C i p S.n (pvI C i (sv i)))],.nilIface])):=by
 have hm:=h.mo;have hr:=h.ra;have hp:=Y2 (v:=smU (sv i) (sv i).length) (show -moI C i≤moI C i by omega)
 cases hn:betw S.n 0 1
 · refine Sb (bounds_free _ _ _ _ _ _ k p v S.n (pvI C i (sv i)) hn ⟨by unfold pvI;omega,by unfold pvI;omega⟩ ⟨by omega,by omega⟩ w) fun w' hb=>?_;refine⟨?_,hb⟩
   unfold bdL bdH
   rw[hn]
   rfl
 · refine(bounds_kept _ _ _ _ _ _ k p v S.n (pvI C i (sv i)) hn h.gm w).mono ?_;rintro e w' ⟨⟨x,y,rfl,hx,hy⟩,hb⟩;refine⟨?_,hb⟩
   unfold bdL bdH
   rw[hn,if_pos rfl,if_pos rfl,hiI_is hx,hiI_is hy]
theorem MvOK.spread(h:MvOK K wz C S l sv i)(s:Int)(g:Nat)(ca:Nat)(w:World)(hv:VLs w (some (Ad g 0)) (sv i)):
 Calls prog 171 #[.agg (Qbu C i),.slice (some (Ad g 0)) (sv i).length ca,Vi s] w fun e w'=>(∃x cap,e=.returned (.tuple #[.slice (some (Ad x 0)) (sv i).length cap,.nilIface])∧w.heap.size≤x∧ILs w' (some (Ad x 0)) (plI (C.a i 5) (C.a i 6) (sv i) s))∧Bw w w':=
 spread_at (C.a i 5) (C.a i 6) (C.a i 7) (C.a i 10) s _ (sv i) (some (Ad g 0)) ca h.ok h.n1 h.n4 (levI_is (by have:=h.h5;omega) (Y2 (v:=s) (Um _ _ (sv i) (show -C.a i 5≤C.a i 5 by have:=h.h5;omega))).1) w hv
end
def clE(n:Int):Int:=if betw n 0 3 then 0 else 3
theorem checkLaw_any(n:Int)(w:World):Calls prog 119 #[Vi n] w (Rt w (errV (clE n))):=by
 have h:=U5 n
 unfold clE
 generalize betw n 0 3=b at*
 cases b
 · rw[if_neg (by simp),Z4 (by decide)]
   go_enter func119,ntmps119
   go_wp2_with (go_at_call 165;refine Sb (h _) fun w1 hb=>?_);go_ret;exact⟨rfl,hb⟩
 · rw[if_pos rfl,Z2]
   go_enter func119,ntmps119
   go_wp2_with (go_at_call 165;refine Sb (h _) fun w1 hb=>?_);go_ret;exact⟨rfl,hb⟩
def seU(C:CR)(i:Nat)(L:List Sv):Nat→Int
 |0=>0
 |k+1=>if seU C i L k=0 then svE (C.a i 5) (C.a i 6) (C.a i 7) (C.a i 10) (svAt L k).1 (svAt L k).2.1 (svAt L k).2.2 else seU C i L k
theorem seU_stay(h:seU C i L k≠0):∀m,k≤m→seU C i L m=seU C i L k:=by
 intro m hm
 induction m with
 |zero=>
  have:k=0:=by omega
  subst this;rfl
 |succ m ih=>
  by_cases e:k=m+1
  · subst e;rfl
  · have i:=ih (by omega);rw[seU,i,if_neg h]
def csE(C:CR)(i:Nat)(L:List Sv):Int:=if(L.length:Int)=C.a i 4 then seU C i L L.length else 3
theorem checkServos_any(C:CR)(i:Nat)(L:List Sv)(a:Option Addr)(cap:Nat)(hl:L.length≤9)(w:World)(hv:VLs w a L):
 Calls prog 123 #[.agg (Qab C i),.slice a L.length cap] w (Rt w (errV (csE C i L))):=by
 have HV:=Za hv;have har:=Nt (C.a i 0) (C.a i 1) (C.a i 2) (C.a i 3) (C.a i 4) (C.a i 5) (C.a i 6) (C.a i 7) (C.a i 8) (C.a i 9) (C.a i 10) (C.a i 11) (C.a i 14) (C.p i) (C.q i) (C.al i).length (C.zl i).length (C.cn i) (C.cm i);clear hv
 by_cases hn:(L.length:Int)=C.a i 4
 · have HE:Hid (csE C i L=seU C i L L.length):=Za (by unfold csE;rw[if_pos hn]);rw[HE.out];have Hf:Hid (Blk 26 (w.alloc (.cells (Qab C i) 26)) w.heap.size (Qad C i)):=Za (Blk.new w _ _)
   go_enter func123,ntmps123
   go_upto_region 4 with fail;have Hi:=Za (Zb w (.cells (Qab C i) 26));generalize w.alloc (.cells (Qab C i) 26)=w1 at *;generalize w.heap.size=QA at Hf⊢
   go_loopw [16] (fun ix wr=>∃k:Nat,k≤L.length∧ix=Vi k∧Hid (seU C i L k=0)∧Blk 26 wr QA (Qad C i)∧Bw w wr) (fun ix _=>L.length-(intOf ix).toNat)
   case atStart=>exact⟨0,Nat.zero_le _,rfl,Za rfl,Hf.out,Hi.out⟩
   case round=>
    obtain⟨k,hk,rfl,hE,hax,hbw⟩:=hrel;clear Hf Hi
    by_cases hlt:k<L.length
    · obtain⟨b,off,rfl,c0,c1,c2⟩:=(HV.out.later hbw).at hlt;have hck:=Np (C.a i 5) (C.a i 6) (C.a i 7) (C.a i 10) (svAt L k).1 (svAt L k).2.1 (svAt L k).2.2;have HS:Hid (seU C i L (k+1)=svE (C.a i 5) (C.a i 6) (C.a i 7) (C.a i 10) (svAt L k).1 (svAt L k).2.1 (svAt L k).2.2):=Za (by rw[seU,if_pos hE.out]);generalize svE (C.a i 5) (C.a i 6) (C.a i 7) (C.a i 10) (svAt L k).1 (svAt L k).2.1 (svAt L k).2.2=se at *;generalize (svAt L k).1=si at *;generalize (svAt L k).2.1=sb at *;generalize (svAt L k).2.2=so at*
      have k0:(0:Int)≤(k:Int):=by omega
      have k1:(k:Int)<(L.length:Int):=by omega
      have Hc:=Za (Zc hbw (Zb wr (.cells #[Vi si,Vi sb,.bool so] 116)));have Hd:=Za (hax.later (Zb wr (.cells #[Vi si,Vi sb,.bool so] 116)));have Hg:Hid (Blk 116 (wr.alloc (.cells #[Vi si,Vi sb,.bool so] 116)) wr.heap.size [Vi si,Vi sb,.bool so]):=Za (Blk.new wr _ _);clear hax hbw hE
      go_upto_region 6 with fail;clear c0 c1 c2;generalize wr.alloc (.cells #[Vi si,Vi sb,.bool so] 116)=w2 at *;generalize wr.heap.size=QS at Hg⊢;have Ha:=Za Hd.out.range;have Hb:=Za Hg.out.range;clear Hg
      by_cases he:se=0
      · subst he;simp only[Z2] at hck;refine Cs [20,21,22,23,7] ?_;refine Cl (x:=.tmp 2) 0 20 [] (fun y w _ u hSw=>⟨Zg Ha.out hSw,rfl⟩) underlying26 Zs ?_;refine Cc 1 21 [0] (fun y w h _=>har _) ?_;refine Cl (x:=.tmp 6) 2 22 [] (fun y w _ u hSw=>⟨Zg Hb.out hSw,rfl⟩) underlying116 Xz ?_;refine Cc 3 23 [1,2] (fun y w h _=>hck _) ?_;refine Cp 4 7 [3] ?_;refine Ce (fun y u1 hB hf=>?_);have Hj:=Za hB;clear hB hf;go_simp;have hB:=Hj.out;clear Hj;generalize u1=v6 at hB⊢;refine Ek ?_;clear Ha Hb;have Hh:=Za (Zc Hc.out hB);have Hd:=Za (Hd.out.later hB);clear hB Hc;go_wp2_with fail;go_roundw
        case rel=>exact⟨k+1,by omega,by go_num,HS,Hd.out,Hh.out⟩
        case measure=>simp[intOf];omega
      · simp only[Z4 he] at hck;refine Cs [20,21,22,23,7] ?_;refine Cl (x:=.tmp 2) 0 20 [] (fun y w _ u hSw=>⟨Zg Ha.out hSw,rfl⟩) underlying26 Zs ?_;refine Cc 1 21 [0] (fun y w h _=>har _) ?_;refine Cl (x:=.tmp 6) 2 22 [] (fun y w _ u hSw=>⟨Zg Hb.out hSw,rfl⟩) underlying116 Xz ?_;refine Cc 3 23 [1,2] (fun y w h _=>hck _) ?_;refine Cp 4 7 [3] ?_;refine Ce (fun y u2 hB hf=>?_);have Hk:=Za hB;clear hB hf;go_simp;have hB:=Hk.out;clear Hk;generalize u2=v6 at hB⊢;refine Ek ?_;clear Ha Hb;have Hh:=Za (Zc Hc.out hB);clear hB Hc;go_wp2_with fail;go_ret;refine⟨?_,Hh.out⟩;rw[seU_stay (by rw[HS.out];exact he) _ hlt,HS.out,Z4 he]
        rfl
    · obtain rfl:k=L.length:=by omega
      go_wp2_with fail;go_ret;exact⟨by rw[hE.out];rfl,hbw⟩
 · have HE:Hid (csE C i L=3):=Za (by unfold csE;rw[if_neg hn]);rw[HE.out,Z4 (by decide)]
   have hne:(decide ((L.length:Int)=C.a i 4))=false:=by simpa using hn
   go_enter func123,ntmps123
   go_wp2_with fail;go_ret;exact⟨rfl,Zb _ _⟩
def chE(C:CR)(i:Nat)(h:Int×Int×Int):Int:=hoE (C.a i 0) (C.a i 1) (C.a i 11) (C.a i 14) (moI C i) (C.al i) (C.zl i) h.1 h.2.1 h.2.2 0 0 0
structure AxC (u:World) (C:CR) (i:Nat):Prop where
 h4:2≤C.a i 4∧C.a i 4≤4
 h5:1≤C.a i 5∧C.a i 5≤1000
 h3:0≤C.a i 3∧C.a i 3≤1000
 h7:0≤C.a i 7∧C.a i 7≤1000
 h6:1≤C.a i 6∧C.a i 6≤1000
 m0:(C.al i).length≤9223372036854775807
 m1:(C.zl i).length≤9223372036854775807
 mc:(C.al i).length≤C.cn i
 la:Lst u (C.p i) (C.al i)
 lz:Lst u (C.q i) (C.zl i)
theorem AxC.later{u':World}(h:AxC u C i)(hb:Bw u u'):AxC u' C i:=⟨h.h4,h.h5,h.h3,h.h7,h.h6,h.m0,h.m1,h.mc,h.la.later hb,h.lz.later hb⟩
theorem want_some(h:AxC w C i)(hd:Int×Int×Int):∃x x0 x1 x2:Int,∀u,Bw w u→Calls prog 167 #[.agg (Qau C i),.agg #[Vi hd.1,Vi hd.2.1,Vi hd.2.2],.agg #[Vi 0,Vi 0,Vi 0,Vi 0,Vi 0]] u (Rt u (.tuple #[Vi x,.agg #[Vi x0,Vi x1,Vi x2],errV (chE C i hd)])):=by
 by_cases he:chE C i hd=0
 · simp only[he,Z2];exact⟨_,_,_,_,fun u hb=>want_ok (C.a i 0) (C.a i 1) (C.a i 11) (C.a i 14) (moI C i) (C.p i) (C.q i) (C.cn i) (C.cm i) (C.al i) (C.zl i) hd.1 hd.2.1 hd.2.2 0 0 0 0 0 h.m0 h.m1 h.mc he u (h.la.later hb) (h.lz.later hb)⟩
 · simp only[Z4 he];exact⟨0,0,0,0,fun u hb=>want_err (C.a i 0) (C.a i 1) (C.a i 11) (C.a i 14) (moI C i) (C.p i) (C.q i) (C.cn i) (C.cm i) (C.al i) (C.zl i) hd.1 hd.2.1 hd.2.2 0 0 0 0 0 h.m0 h.m1 h.mc he u (h.la.later hb) (h.lz.later hb)⟩
theorem checkHold_any(C:CR)(i:Nat)(hd:Int×Int×Int)(w:World)(h:AxC w C i):
 Calls prog 125 #[.agg (Qab C i),.agg #[Vi hd.1,Vi hd.2.1,Vi hd.2.2]] w (Rt w (errV (chE C i hd))):=by
 obtain⟨x,x0,x1,x2,hwn⟩:=want_some h hd;have hhr0:=Mh (C.a i 0) (C.a i 1) (C.a i 2) (C.a i 3) (C.a i 4) (C.a i 5) (C.a i 6) (C.a i 7) (C.a i 8) (C.a i 9) (C.a i 10) (C.a i 11) (C.a i 14) (C.p i) (C.q i) (C.al i).length (C.zl i).length (C.cn i) (C.cm i) h.h4 h.h5 h.h3 h.h7 h.h6;have hhr:∀u,Calls prog 168 #[.agg (Qab C i)] u (Rt u (.agg (Qau C i))):=hhr0;clear hhr0 h;generalize chE C i hd=ce at *;generalize moI C i=mo at *;obtain⟨h0,h1,h2⟩:=hd
 dsimp only at*
 have Hh:=Za ((Blk.new w 26 (Qad C i)).later (Zb _ (.cells #[Vi h0,Vi h1,Vi h2] 38)))
 have Hi:Hid (Blk 38 ((w.alloc (.cells (Qab C i) 26)).alloc (.cells #[Vi h0,Vi h1,Vi h2] 38)) (w.heap.size+1) [Vi h0,Vi h1,Vi h2]):=Za (by
  have:=Blk.new (w.alloc (.cells (Qab C i) 26)) 38 [Vi h0,Vi h1,Vi h2];rw[World.size_alloc] at this;exact this)
 have Hf:=Za (Zc (Zb w (.cells (Qab C i) 26)) (Zb _ (.cells #[Vi h0,Vi h1,Vi h2] 38)))
 go_enter func125,ntmps125
 go_upto_region 1 with fail;have Hb:Hid (((w.alloc (.cells (Qab C i) 26)).alloc (.cells #[Vi h0,Vi h1,Vi h2] 38)).rangeAt w.heap.size 0 (Qad C i)):=Za Hh.out.range;have Hc:=Za Hi.out.range;clear Hh Hi;have Hf:Hid (Bw w ((w.alloc (.cells (Qab C i) 26)).alloc (.cells #[Vi h0,Vi h1,Vi h2] 38))):=Hf;generalize (w.alloc (.cells (Qab C i) 26)).alloc (.cells #[Vi h0,Vi h1,Vi h2] 38)=w2 at *;refine Cs [9,10,11,12,13,8,14,15,16,6,5] ?_;refine Cl (x:=.tmp 2) 0 9 [] (fun y w _ u hSw=>⟨Zg Hb.out hSw,rfl⟩) underlying26 Zs ?_;refine Cc 1 10 [0] (fun y w h _=>hhr _) ?_;refine Cl (x:=.tmp 3) 2 11 [] (fun y w _ u hSw=>⟨Zg Hc.out hSw,rfl⟩) underlying38 Xh ?_;refine Cp 3 12 [] ?_;refine Cc 4 13 [1,2,3] (fun y w h _=>hwn _ (Zc Hf.out h)) ?_;refine Cp 5 8 [4] ?_;refine Cp 6 14 [5] ?_;refine Cp 7 15 [5] ?_;refine Cp 8 16 [5] ?_;refine Ca 9 6 ?_;refine Cp 10 5 [6] ?_;refine Cn 2 13 [11,12] (fun y u1 hB hf=>?_);obtain⟨XA,e,hA⟩:=hf.2.1;have Ha:Hid (NB _ _ _ XA [Vi 0,Vi 0,Vi 0]):=Za hA;(try simp only[e]);clear e hA;have Hj:=Za hB;clear hB hf;refine Ra 11 (fun K hK=>?_);rw[if_pos (by rfl)];refine Yi 38 (.tmp 6) (.tmp 15) rfl XA 0 #[Vi x0,Vi x1,Vi x2] rfl rfl (Ha.out.1.there (Nat.le_of_ble_eq_true rfl)) Xh (Zn _ rfl) rfl ?_
 have Hg:=Za (Zr [Vi x0,Vi x1,Vi x2] 0 u1 Hj.out (NB.le Ha.out));have Hd:Hid (NB 38 w2.heap.size (u1.setCells XA 0 [Vi x0,Vi x1,Vi x2]) XA [Vi x0,Vi x1,Vi x2]):=Za ⟨Blk.setCells [Vi x0,Vi x1,Vi x2] 0 u1 [Vi 0,Vi 0,Vi 0] Ha.out.1,NB.le Ha.out⟩;generalize hU:World.setCells _ XA 0 _=u2 at *;clear hU;refine hK.out _ _ Hg.out (fun _=>?_);clear hK K;clear Hj Ha;refine Tq 12 Hg.out ?_;simp only[Act.put,Ly];refine Dn ?_;go_simp;have hA:=Hd.out;clear Hd;have hB:=Hg.out;clear Hg;generalize u2=v1 at hB hA⊢;refine Ek ?_;have Hk:=Za (Zc Hf.out hB);clear hA hB Hb Hc;go_wp2_with fail;go_ret;exact⟨rfl,Hk.out⟩
section
variable {zz : World} {Ba Bs Bi Bb : Nat} {S : FS} {C : CR} {i : Nat} {L : List Sv}
theorem sc1_any(h:Blk 41 zz Bs (stL S)):Calls prog 118 #[.pointer (some (Ad Bs 0))] zz (Rt zz (errV (clE S.n))):=by
 have c:=(h.cell (show(stL S)[29]?=some (Vi S.n) from rfl)).1;have hc:=checkLaw_any S.n;clear h;generalize clE S.n=ce at*
 go_enter func118,ntmps118
 go_wp2_with (go_at_call 119;refine Sb (hc _) fun w1 hb=>?_);go_ret;exact⟨rfl,hb⟩
theorem infoB7':(prog.info? 33).map (·.size)=some 7:=by kernel_rfl
theorem sc2_any(k:Bk)(h:Blk 33 zz Bb (bkL k)):Calls prog 120 #[.pointer (some (Ad Bb 0))] zz (Rt zz (errV (Yg k.b k.l))):=by
 have HR:=Za h.range;have hc:=Zji k.b k.o k.l;clear h;generalize Yg k.b k.l=ce at*
 go_enter func120,ntmps120
 go_wp2_with (first
  |(refine Lm 33 (.tmp 0) rfl Bb 0 (bkL k) HR.out underlying33 infoB7' ?_)
  |(go_at_call 121;refine Sb (hc _) fun w1 hb=>?_))
 go_ret;exact⟨rfl,hb⟩
theorem sc3_any(hi:i<2)(ha:Blk 26 zz Ba (Qad C i))(hs:Blk 41 zz Bs (stL S))(hx:Blk 3 zz Bi [Vi (i:Int)])(hn:S.sn i=L.length)(hl:L.length≤9)(hv:VLs zz (S.sp i) L):
 Calls prog 122 #[.pointer (some (Ad Ba 0)),.pointer (some (Ad Bs 0)),.pointer (some (Ad Bi 0))] zz (Rt zz (errV (csE C i L))):=by
 have hix:=(hx.cell (j:=0) rfl).1;have hsv:=(hs.cell (Wy S hi)).1;rw[hn] at hsv;have Ha:=Za ha.range;have hcs:=fun v (h:Bw zz v)=>checkServos_any C i L (S.sp i) (S.sc i) hl v (hv.later h)
 have i0:(0:Int)≤(i:Int):=by omega
 have i1:(i:Int)<2:=by omega
 clear ha hs hx hv;generalize csE C i L=ce at*
 go_enter func122,ntmps122
 go_upto_region 1 with fail;refine Cs [4,5,6,7,8,9,3] ?_;refine Cl (x:=.tmp 0) 0 4 [] (fun y w _ u hSw=>⟨Zg Ha.out hSw,rfl⟩) underlying26 Zs ?_;refine Cq (fun _ h=>cell_later h hix) 1 5 [] ?_;refine Cp 2 6 [] ?_;refine Cp 3 7 [2,1] ?_;refine Cq (fun _ h=>cell_later h hsv) 4 8 [3] ?_;refine Cc 5 9 [0,4] (fun y w h _=>hcs _ h) ?_;refine Cp 6 3 [5] ?_;refine Ce (fun y u1 hB hf=>?_);have Hb:=Za hB;clear hB hf;go_simp;have hB:=Hb.out;clear Hb;generalize u1=v1 at hB⊢;refine Ek ?_;go_wp2_with fail;go_ret;exact⟨rfl,hB⟩
theorem sc4_any(hi:i<2)(ha:Blk 26 zz Ba (Qad C i))(hs:Blk 41 zz Bs (stL S))(hx:Blk 3 zz Bi [Vi (i:Int)])(hc:AxC zz C i):
 Calls prog 124 #[.pointer (some (Ad Ba 0)),.pointer (some (Ad Bs 0)),.pointer (some (Ad Bi 0))] zz (Rt zz (errV (chE C i (S.hd i)))):=by
 have hix:=(hx.cell (j:=0) rfl).1;have Ha:=Za (hs.sub (23+i*3) 3);rw[st_hold S hi] at Ha;have Hb:=Za ha.range;have hch:=fun v (h:Bw zz v)=>checkHold_any C i (S.hd i) v (hc.later h)
 have i0:(0:Int)≤(i:Int):=by omega
 have i1:(i:Int)<2:=by omega
 clear ha hs hx hc;generalize chE C i (S.hd i)=ce at*
 unfold hdL at Ha
 generalize (S.hd i).1=h0 at *;generalize (S.hd i).2.1=h1 at *;generalize (S.hd i).2.2=h2 at*
 go_enter func124,ntmps124
 go_upto_region 1 with fail;refine Cs [4,5,6,7,8,9,3] ?_;refine Cl (x:=.tmp 0) 0 4 [] (fun y w _ u hSw=>⟨Zg Hb.out hSw,rfl⟩) underlying26 Zs ?_;refine Cq (fun _ h=>cell_later h hix) 1 5 [] ?_;refine Cp 2 6 [] ?_;refine Cp 3 7 [2,1] ?_;refine Cl (x:=.tmp 7) 4 8 [3] (fun y w hF u hSw=>⟨Zg Ha.out hSw,hF.1⟩) underlying38 Xh ?_;refine Cc 5 9 [0,4] (fun y w h _=>hch _ h) ?_;refine Cp 6 3 [5] ?_;refine Ce (fun y u1 hB hf=>?_);have Hc:=Za hB;clear hB hf;go_simp;have hB:=Hc.out;clear Hc;generalize u1=v1 at hB⊢;refine Ek ?_;go_wp2_with fail;go_ret;exact⟨rfl,hB⟩
end
theorem moveAxis_ok{G:Nat→Nat}(hf:FR K wz w B S C a cap l (sv) G)(i:Nat)(hi:i<2)(hm:MvOK K wz C S l sv i):
 Calls prog 112 #[.pointer (some (Ad B 0)),Vi i] w fun e w'=>e=.returned .nilIface∧FR K wz w' B ({ S with hd:=upd S.hd i (hoM C i (S.hd i) (skI l i) (S.bk i).l (S.bk 2).l S.n (sv i)) }:FS) C a cap l (upd sv i (svM C i (S.hd i) (skI l i) (S.bk i).l (S.bk 2).l S.n (sv i))) G:=by
 have hak:=fun u (h:Bw w u)=>ask_ok (hf.later h) i hi (by have:=hm.n4;omega) hm.is hm.h4 hm.h5 hm.h3 hm.h7 hm.h6;have hhr:=Mh (C.a i 0) (C.a i 1) (C.a i 2) (C.a i 3) (C.a i 4) (C.a i 5) (C.a i 6) (C.a i 7) (C.a i 8) (C.a i 9) (C.a i 10) (C.a i 11) (C.a i 14) (C.p i) (C.q i) (C.al i).length (C.zl i).length (C.cn i) (C.cm i) hm.h4 hm.h5 hm.h3 hm.h7 hm.h6;have hgr:=Nu (C.a i 0) (C.a i 1) (C.a i 2) (C.a i 3) (C.a i 4) (C.a i 5) (C.a i 6) (C.a i 7) (C.a i 8) (C.a i 9) (C.a i 10) (C.a i 11) (C.a i 14) (C.p i) (C.q i) (C.al i).length (C.zl i).length (C.cn i) (C.cm i) hm.h4 hm.h5 hm.h3 hm.h7 hm.h6;have har:=Nt (C.a i 0) (C.a i 1) (C.a i 2) (C.a i 3) (C.a i 4) (C.a i 5) (C.a i 6) (C.a i 7) (C.a i 8) (C.a i 9) (C.a i 10) (C.a i 11) (C.a i 14) (C.p i) (C.q i) (C.al i).length (C.zl i).length (C.cn i) (C.cm i);have hbd:=hm.bounds (skI l i) (S.bk i).l (S.bk 2).l;have hwt0:=fun u (h:Below K wz u)=>want_ok (C.a i 0) (C.a i 1) (C.a i 11) (C.a i 14) (moI C i) (C.p i) (C.q i) (C.cn i) (C.cm i) (C.al i) (C.zl i) (S.hd i).1 (S.hd i).2.1 (S.hd i).2.2 (skI l i) (S.bk i).l (S.bk 2).l S.n (pvI C i (sv i)) hm.m0 hm.m1 hm.mc hm.ho u (hm.line u h).1 (hm.line u h).2;have hto0:=fun u (h:Below K wz u)=>told_ok (C.a i 0) (C.a i 1) (C.a i 11) (C.a i 14) (moI C i) (C.p i) (C.q i) (C.cn i) (C.cm i) (C.al i) (C.zl i) (haM C i (S.hd i) (skI l i) (S.bk i).l S.n) (hdM C i (S.hd i) (skI l i) (S.bk i).l (S.bk 2).l S.n (sv i)) S.n (skI l i) (S.bk i).l (S.bk 2).l S.n (pvI C i (sv i)) (wtM C i (S.hd i) (skI l i) (S.bk i).l (S.bk 2).l S.n (sv i)) (smU (svM C i (S.hd i) (skI l i) (S.bk i).l (S.bk 2).l S.n (sv i)) (sv i).length) hm.m0 hm.m1 hm.mc (hoE_want (S.bk i).l (S.bk 2).l hm.ho) u (hm.line u h).1 (hm.line u h).2;have hsp0:=fun u (h:VLs u (some (Ad (G i) 0)) (sv i))=>hm.spread (goM C i (S.hd i) (skI l i) (S.bk i).l (S.bk 2).l S.n (sv i)) (G i) (S.sc i) u h;have hcl:=Yu (wtM C i (S.hd i) (skI l i) (S.bk i).l (S.bk 2).l S.n (sv i)) (bdL C i (S.bk i).l S.n (pvI C i (sv i))) (bdH C i (S.bk i).l S.n (pvI C i (sv i)));have hsl:(svM C i (S.hd i) (skI l i) (S.bk i).l (S.bk 2).l S.n (sv i)).length=(sv i).length:=sik_len _ _ _
 have hsm0:=fun u (h:VLs u (some (Ad (G i) 0)) (svM C i (S.hd i) (skI l i) (S.bk i).l (S.bk 2).l S.n (sv i)))=>shareSum_any (svM C i (S.hd i) (skI l i) (S.bk i).l (S.bk 2).l S.n (sv i)) (some (Ad (G i) 0)) (S.sc i) (by rw[hsl];have:=hm.n4;omega) (fun k hk=>by
  rw[hsl] at hk
  unfold svM
  rw[sik_end _ _ hk]
  exact plI_bd hm.ok _ hk) u h
 rw[hsl] at hsm0;have hsv:=(hf.blk.cell (Uz S C _ hi)).1;rw[(hf.servo i hi).1,(hf.servo i hi).2.1] at hsv;have HG:=Za (hf.blk.sub (30+i*15) 15);rw[fr_axis S C _ hi] at HG;have hn4:=hm.n4;have hpl:(plI (C.a i 5) (C.a i 6) (sv i) (goM C i (S.hd i) (skI l i) (S.bk i).l (S.bk 2).l S.n (sv i))).length=(sv i).length:=plI_len _ _ _ _;have Hp:Hid (svM C i (S.hd i) (skI l i) (S.bk i).l (S.bk 2).l S.n (sv i)=sik (sv i) (plI (C.a i 5) (C.a i 6) (sv i) (goM C i (S.hd i) (skI l i) (S.bk i).l (S.bk 2).l S.n (sv i))) (sv i).length):=Za rfl;have Hx:Hid (hoM C i (S.hd i) (skI l i) (S.bk i).l (S.bk 2).l S.n (sv i)=(haM C i (S.hd i) (skI l i) (S.bk i).l S.n,toD (C.a i 14) (moI C i) (haM C i (S.hd i) (skI l i) (S.bk i).l S.n) (hdM C i (S.hd i) (skI l i) (S.bk i).l (S.bk 2).l S.n (sv i)) (S.bk i).l S.n (wtM C i (S.hd i) (skI l i) (S.bk i).l (S.bk 2).l S.n (sv i)) (smU (svM C i (S.hd i) (skI l i) (S.bk i).l (S.bk 2).l S.n (sv i)) (sv i).length),S.n)):=Za rfl;rw[Hp.out] at hsm0;have hwt:∀u,Below K wz u→Calls prog 167 #[.agg (Qau C i),.agg #[Vi (S.hd i).1,Vi (S.hd i).2.1,Vi (S.hd i).2.2],.agg #[Vi (skI l i),Vi (S.bk i).l,Vi (S.bk 2).l,Vi S.n,Vi (pvI C i (sv i))]] u (Rt u (.tuple #[Vi (wtM C i (S.hd i) (skI l i) (S.bk i).l (S.bk 2).l S.n (sv i)),.agg #[Vi (haM C i (S.hd i) (skI l i) (S.bk i).l S.n),Vi (hdM C i (S.hd i) (skI l i) (S.bk i).l (S.bk 2).l S.n (sv i)),Vi S.n],.nilIface])):=hwt0;have hak':∀u,Bw w u→Calls prog 166 #[.pointer (some (Ad B 0)),Vi i] u (Rt u (.agg #[Vi (skI l i),Vi (S.bk i).l,Vi (S.bk 2).l,Vi S.n,Vi (pvI C i (sv i))])):=hak;have hhr':∀u,Calls prog 168 #[.agg (Qab C i)] u (Rt u (.agg (Qau C i))):=hhr
 have hgr':∀u,Calls prog 170 #[.agg (Qab C i)] u (Rt u (.agg (Qbm C i))):=hgr;have hcl':∀u,Calls prog 172 #[Vi (wtM C i (S.hd i) (skI l i) (S.bk i).l (S.bk 2).l S.n (sv i)),Vi (bdL C i (S.bk i).l S.n (pvI C i (sv i))),Vi (bdH C i (S.bk i).l S.n (pvI C i (sv i)))] u (Re u (Vi (goM C i (S.hd i) (skI l i) (S.bk i).l (S.bk 2).l S.n (sv i)))):=hcl;clear hak hwt0 hhr hgr hcl hsl;have Hk:=Za hf.low;have Hy:=Za hf;have hGi:=(hf.servo i hi).2.2.1.lt;have Hq:=hf.vls hi;rw[(hf.servo i hi).1] at Hq;have Hq:=Za Hq;have hBi:=hf.blk.lt;have HF:=Za (hf.servo i hi).2.2.2.2.1;have Hn:=Za (hf.blk.sub (23+i*3) 3);rw[fr_hold S C _ hi] at Hn;have hKw:K≤w.heap.size:=Nat.le_of_lt (Nat.lt_of_le_of_lt hf.base hf.blk.lt);clear hm hf;obtain⟨h0,h1,h2,HHE⟩:∃h0 h1 h2,Hid ((S.hd i).1=h0∧(S.hd i).2.1=h1∧(S.hd i).2.2=h2):=⟨_,_,_,Za ⟨rfl,rfl,rfl⟩⟩;simp only[HHE.out.1,HHE.out.2.1,HHE.out.2.2] at hwt
 have Hn:Hid (w.rangeAt B (23+i*3) [Vi h0,Vi h1,Vi h2]):=by
  have:=Hn.out
  unfold hdL at this
  rw[HHE.out.1,HHE.out.2.1,HHE.out.2.2] at this;exact Za this
 clear HHE;obtain⟨p,HPE⟩:∃p,Hid (plI (C.a i 5) (C.a i 6) (sv i) (goM C i (S.hd i) (skI l i) (S.bk i).l (S.bk 2).l S.n (sv i))=p):=⟨_,Za rfl⟩;rw[HPE.out] at hsm0 hpl Hp;simp only[HPE.out] at hsp0;generalize toD (C.a i 14) (moI C i) (haM C i (S.hd i) (skI l i) (S.bk i).l S.n) (hdM C i (S.hd i) (skI l i) (S.bk i).l (S.bk 2).l S.n (sv i)) (S.bk i).l S.n (wtM C i (S.hd i) (skI l i) (S.bk i).l (S.bk 2).l S.n (sv i)) (smU (svM C i (S.hd i) (skI l i) (S.bk i).l (S.bk 2).l S.n (sv i)) (sv i).length)=td at *;rw[Hp.out] at hto0;generalize smU (sik (sv i) p (sv i).length) (sv i).length=gt at *;clear HPE;generalize goM C i (S.hd i) (skI l i) (S.bk i).l (S.bk 2).l S.n (sv i)=go at *;generalize wtM C i (S.hd i) (skI l i) (S.bk i).l (S.bk 2).l S.n (sv i)=wt at *;generalize hdM C i (S.hd i) (skI l i) (S.bk i).l (S.bk 2).l S.n (sv i)=hd at *;generalize haM C i (S.hd i) (skI l i) (S.bk i).l S.n=ha at *;generalize bdL C i (S.bk i).l S.n (pvI C i (sv i))=lo at *;generalize bdH C i (S.bk i).l S.n (pvI C i (sv i))=hi' at *;rw[Hx.out,Hp.out];clear Hx Hp;generalize hn:(sv i).length=m at *;generalize skI l i=sk at *;generalize (S.bk i).l=bx at *;generalize (S.bk 2).l=bv at *;generalize hSn:S.n=n at *;generalize pvI C i (sv i)=pv at *;(try dsimp only[Qau,Qbm] at *);generalize moI C i=mo at *;generalize raI C i=ra at *;generalize puI C i=pu at*
 have i0:(0:Int)≤(i:Int):=by omega
 have i1:(i:Int)<2:=by omega
 go_enter func112,ntmps112
 go_upto_region 1 with fail;refine Cs [16,17,18,19,20,21,22,23,24,25,26,27,28,29,5] ?_;refine Cp 0 16 [] ?_;refine Cp 1 17 [] ?_;refine Cp 2 18 [0] ?_;refine Cp 3 19 [2] ?_;refine Cp 4 20 [3] ?_;refine Cp 5 21 [4,1] ?_;refine Cl (x:=.tmp 21) 6 22 [5] (fun y w hF u hSw=>⟨Zg HG.out hSw,hF.1⟩) underlying26 Zs ?_;refine Cp 7 23 [] ?_;refine Cp 8 24 [] ?_;refine Cp 9 25 [7] ?_;refine Cp 10 26 [9] ?_;refine Cp 11 27 [10] ?_;refine Cp 12 28 [11,8] ?_;refine Cq (fun _ h=>cell_later h hsv) 13 29 [12] ?_;refine Ca 14 5 ?_;refine Cn 2 17 [15,16] (fun y u1 hB hf=>?_);obtain⟨XA,e,hA⟩:=hf.1;have Ha:Hid (NB _ _ _ XA Qbn):=Za hA;(try simp only[e]);clear e hA;have Hh:=Za hB;clear hB hf;refine Ra 15 (fun K hK=>?_);rw[if_pos (by rfl)];refine Yi 26 (.tmp 5) (.tmp 22) rfl XA 0 (Qab C i) rfl rfl (Ha.out.1.there (Nat.le_of_ble_eq_true rfl)) Zs (Zn _ rfl) rfl ?_;have Hd:=Za (Zr (Qad C i) 0 u1 Hh.out (NB.le Ha.out))
 have Hb:Hid (NB 26 w.heap.size (u1.setCells XA 0 (Qad C i)) XA (Qad C i)):=Za ⟨Blk.setCells (Qad C i) 0 u1 Qbn Ha.out.1,NB.le Ha.out⟩;generalize hU:World.setCells _ XA 0 _=u2 at *;clear hU;refine hK.out _ _ Hd.out (fun _=>?_);clear hK K;clear Hh Ha;refine Tq 16 Hd.out ?_;simp only[Act.put,Ly];refine Dn ?_;go_simp;have hA:=Hb.out;clear Hb;have hB:=Hd.out;clear Hd;generalize u2=v1 at hB hA⊢;clear hsv HG;refine Ek ?_;have Hf:=Za hA.1;have hQA:=NB.le hA;clear hA;generalize XA=QA at *;have Hu:=Za hB;clear hB
 go_upto_region 3 with(go_at_call 166;refine Sb (hak' _ Hu.out) fun v hb=>?_;have Hl:=Za (Zc Hu.out hb);have Hf:=Za (Hf.out.later hb);clear hb Hu);have hQK:=Hl.out.size;have Hi:Hid (Blk 110 (v.alloc (.cells #[Vi sk,Vi bx,Vi bv,Vi n,Vi pv] 110)) v.heap.size [Vi sk,Vi bx,Vi bv,Vi n,Vi pv]):=Za (Blk.new v _ _);have Hf:=Za (Hf.out.later (Zb v (.cells #[Vi sk,Vi bx,Vi bv,Vi n,Vi pv] 110)));have Hl:=Za (Zc Hl.out (Zb v (.cells #[Vi sk,Vi bx,Vi bv,Vi n,Vi pv] 110)));generalize v.alloc (.cells #[Vi sk,Vi bx,Vi bv,Vi n,Vi pv] 110)=v2 at *;generalize v.heap.size=QK at *;have Hk:=Za (low_up Hk.out hKw Hl.out);have hKw:K≤v2.heap.size:=Nat.le_trans hKw Hl.out.size;have Hn:=Za (Zg Hn.out Hl.out);have Hc:Hid (v2.rangeAt QA 0 (axL C i)):=Za Hf.out.range;have Hg:=Za Hi.out.range;refine Cs [34,35,36,37,38,39,40,41,42,43,44,33,45,46,47,9,8] ?_;refine Cl (x:=.tmp 5) 0 34 [] (fun y w _ u hSw=>⟨Zg Hc.out hSw,rfl⟩) underlying26 Zs ?_;refine Cc 1 35 [0] (fun y w h _=>hhr' _) ?_;refine Cp 2 36 [] ?_;refine Cp 3 37 [] ?_;refine Cp 4 38 [2] ?_;refine Cp 5 39 [4] ?_;refine Cp 6 40 [5] ?_;refine Cp 7 41 [6,3] ?_;refine Cl (x:=.tmp 41) 8 42 [7] (fun y w hF u hSw=>⟨Zg Hn.out hSw,hF.1⟩) underlying38 Xh ?_;refine Cl (x:=.tmp 7) 9 43 [] (fun y w _ u hSw=>⟨Zg Hg.out hSw,rfl⟩) underlying110 infoK5 ?_;refine Cc 10 44 [1,8,9] (fun y w h _=>hwt _ (low_up Hk.out hKw h)) ?_;refine Cp 11 33 [10] ?_;refine Cp 12 45 [11] ?_;refine Cp 13 46 [11] ?_;refine Cp 14 47 [11] ?_;refine Ca 15 9 ?_;refine Cp 16 8 [12] ?_;refine Cn 2 19 [17,18] (fun y u1 hB hf=>?_);obtain⟨XA,e,hA⟩:=hf.2.1;have Ha:Hid (NB _ _ _ XA [Vi 0,Vi 0,Vi 0]):=Za hA;(try simp only[e]);clear e hA;have Hh:=Za hB;clear hB hf;refine Ra 17 (fun K hK=>?_);rw[if_pos (by rfl)];refine Yi 38 (.tmp 9) (.tmp 46) rfl XA 0 #[Vi ha,Vi hd,Vi n] rfl rfl (Ha.out.1.there (Nat.le_of_ble_eq_true rfl)) Xh (Zn _ rfl) rfl ?_;have Hd:=Za (Zr [Vi ha,Vi hd,Vi n] 0 u1 Hh.out (NB.le Ha.out));have Hb:Hid (NB 38 v2.heap.size (u1.setCells XA 0 [Vi ha,Vi hd,Vi n]) XA [Vi ha,Vi hd,Vi n]):=Za ⟨Blk.setCells [Vi ha,Vi hd,Vi n] 0 u1 [Vi 0,Vi 0,Vi 0] Ha.out.1,NB.le Ha.out⟩
 generalize hU:World.setCells _ XA 0 _=u2 at *;clear hU;refine hK.out _ _ Hd.out (fun _=>?_);clear hK K;clear Hh Ha;refine Tq 18 Hd.out ?_;simp only[Act.put,Ly];refine Dn ?_;go_simp;have hA:=Hb.out;clear Hb;have hB:=Hd.out;clear Hd;generalize u2=v3 at hB hA⊢;refine Ek ?_;have Hj:=Za hA.1;have hQH:=NB.le hA;have hQH:=Nat.le_trans Hl.out.size hQH;clear hA Hn Hc Hg hwt;generalize XA=QH at *;have Hf:=Za (Hf.out.later hB);have Hi:=Za (Hi.out.later hB);have Hk:=Za (low_up Hk.out hKw hB);have hKw:K≤v3.heap.size:=Nat.le_trans hKw hB.size;have Hz:=Za (Zc Hl.out hB);clear hB Hl
 go_upto_region 6 with fail;have Hc:Hid (v3.rangeAt QA 0 (axL C i)):=Za Hf.out.range;have Hg:=Za Hi.out.range;refine Cs [52,53,54,55,51,56,57,11] ?_;refine Cl (x:=.tmp 5) 0 52 [] (fun y w _ u hSw=>⟨Zg Hc.out hSw,rfl⟩) underlying26 Zs ?_;refine Cc 1 53 [0] (fun y w h _=>hgr' _) ?_;refine Cl (x:=.tmp 7) 2 54 [] (fun y w _ u hSw=>⟨Zg Hg.out hSw,rfl⟩) underlying110 infoK5 ?_;refine Cc 3 55 [1,2] (fun y w h _=>hbd _) ?_;refine Cp 4 51 [3] ?_;refine Cp 5 56 [4] ?_;refine Cp 6 57 [4] ?_;refine Ca 7 11 ?_;refine Cn 2 10 [8,9] (fun y u1 hB hf=>?_);obtain⟨XA,e,hA⟩:=hf.1;have Ha:Hid (NB _ _ _ XA [Vi 0,Vi 0]):=Za hA;(try simp only[e]);clear e hA;have Hh:=Za hB;clear hB hf;refine Ra 8 (fun K hK=>?_);rw[if_pos (by rfl)];refine Yi 105 (.tmp 11) (.tmp 56) rfl XA 0 #[Vi lo,Vi hi'] rfl rfl (Ha.out.1.there (Nat.le_of_ble_eq_true rfl)) infoP2 (Zn _ rfl) rfl ?_;have Hd:=Za (Zr [Vi lo,Vi hi'] 0 u1 Hh.out (NB.le Ha.out));have Hb:Hid (NB 105 v3.heap.size (u1.setCells XA 0 [Vi lo,Vi hi']) XA [Vi lo,Vi hi']):=Za ⟨Blk.setCells [Vi lo,Vi hi'] 0 u1 [Vi 0,Vi 0] Ha.out.1,NB.le Ha.out⟩;generalize hU:World.setCells _ XA 0 _=u2 at *;clear hU;refine hK.out _ _ Hd.out (fun _=>?_);clear hK K;clear Hh Ha;refine Tq 9 Hd.out ?_;simp only[Act.put,Ly];refine Dn ?_;go_simp;have hA:=Hb.out;clear Hb;have hB:=Hd.out;clear Hd;generalize u2=v6 at hB hA⊢;refine Ek ?_;have hs0:=(hA.1.cell (j:=0) rfl).1;have hs1:=(hA.1.cell (j:=1) rfl).1;clear hA Hc Hg hgr' hbd;generalize XA=QB at *;have Hf:=Za (Hf.out.later hB);have Hi:=Za (Hi.out.later hB);have Hj:=Za (Hj.out.later hB);have Hk:=Za (low_up Hk.out hKw hB);have hKw:K≤v6.heap.size:=Nat.le_trans hKw hB.size;have Ht:=Za (Zc Hz.out hB);clear hB Hz
 go_upto_region 9 with fail;have Hc:Hid (v6.rangeAt QA 0 (axL C i)):=Za Hf.out.range;have hsp:∀u,Bw v6 u→Calls prog 171 #[.agg (Qbu C i),.slice (some (Ad (G i) 0)) m (S.sc i),Vi go] u fun e w'=>(∃x cap,e=.returned (.tuple #[.slice (some (Ad x 0)) m cap,.nilIface])∧v6.heap.size≤x∧ILs w' (some (Ad x 0)) p)∧Bw u w':=fun u h=>
  (hsp0 u (Hq.out.later (Zc Ht.out h))).mono fun _ _ ⟨⟨x,cap,h1,h2,h3⟩,hb⟩=>⟨⟨x,cap,h1,Nat.le_trans h.size h2,h3⟩,hb⟩
 refine Cs [62,63,64,65,66,67,68,69,70,71,61,72,73,12,10] ?_;refine Cl (x:=.tmp 5) 0 62 [] (fun y w _ u hSw=>⟨Zg Hc.out hSw,rfl⟩) underlying26 Zs ?_;refine Cc 1 63 [0] (fun y w h _=>har _) ?_;refine Cp 2 64 [] ?_;refine Cp 3 65 [] ?_;refine Cp 4 66 [] ?_;refine Cq (fun _ h=>cell_later h hs0) 5 67 [4] ?_;refine Cp 6 68 [] ?_;refine Cq (fun _ h=>cell_later h hs1) 7 69 [6] ?_;refine Cc 8 70 [3,5,7] (fun y w h _=>Z8 (hcl' _)) ?_;refine Cd 9 71 [1,2,8] (fun v u=>∃gp cp,v=.tuple #[.slice (some (Ad gp 0)) m cp,.nilIface]∧v6.heap.size≤gp∧ILs u (some (Ad gp 0)) p) (fun y w h _=>(hsp _ h).mono (by rintro e w' ⟨⟨gp,cp,rfl,hgp,hpl⟩,hb⟩;exact⟨_,rfl,⟨gp,cp,rfl,hgp,hpl⟩,hb⟩)) (fun _ _ _ ⟨a,b,h1,h2,h3⟩ hb=>⟨a,b,h1,h2,h3.later hb⟩) ?_;refine Cu (fun y=>y 71) 10 61 [9] ?_ (hy:=fun y w _ u=>by go_simp);refine Cu (fun y=>tg (y 61) 0) 11 72 [10,9] ?_ (hy:=fun y w hF u=>by obtain⟨h10,⟨_,_,e,-⟩,-⟩:=hF;simp only[show y 61=_ from h10.trans e];go_simp;rfl);refine Cu (fun y=>tg (y 61) 1) 12 73 [10,9] ?_ (hy:=fun y w hF u=>by obtain⟨h10,⟨_,_,e,-⟩,-⟩:=hF;simp only[show y 61=_ from h10.trans e];go_simp;rfl);refine Cu (fun y=>y 72) 13 12 [11] ?_ (hy:=fun y w _ u=>by go_simp);refine Cu (fun y=>y 73) 14 10 [12] ?_ (hy:=fun y w _ u=>by go_simp);refine Ce (fun y u1 hB hf=>?_);obtain⟨gp,cp,e,hgp,hpl⟩:=hf.2.2.2.2.2.1;simp only[e,tg];have Hr:=Za hpl;have HA:=Za hgp;clear hpl hgp e;have Hh:=Za hB;clear hB hf;go_simp;have hB:=Hh.out;clear Hh;generalize u1=v9 at hB Hr⊢;refine Ek ?_;clear hs0 hs1 hsp hsp0 Hc har hcl';have hgp:=Nat.le_trans Ht.out.size HA.out;have HE:=Za (Zc Ht.out hB);have Hf:Hid (Blk 26 v9 QA (axL C i)):=Za (Hf.out.later hB);have Hi:=Za (Hi.out.later hB);have Hj:=Za (Hj.out.later hB);have HB:=Za (Hy.out.later HE.out);clear hB Ht HA Hy Hq hak' Hk
 go_upto_region 13 with fail
 go_loopw [79] (fun ix wr=>∃k:Nat,k≤m∧ix=Vi k∧FR K wz wr B S C a cap l (upd sv i (sik (sv i) p k)) G∧Blk 26 wr QA (axL C i)∧Blk 110 wr QK [Vi sk,Vi bx,Vi bv,Vi n,Vi pv]∧Blk 38 wr QH [Vi ha,Vi hd,Vi n]∧ILs wr (some (Ad gp 0)) p) (fun ix _=>m-(intOf ix).toNat)
 case atStart=>exact⟨0,Nat.zero_le _,rfl,by rw[upd_sik0];exact HB.out,Hf.out,Hi.out,Hj.out,Hr.out⟩
 case round=>
  obtain⟨k,hk,rfl,hfr,hax,hkk,hhh,hil⟩:=hrel;clear HB Hf Hi Hj Hr
  have hlm:(sik (sv i) p k).length=m:=by rw[sik_len,hn]
  by_cases hlt:k<m
  · have c0:=ils_get hil (k:=k) (by omega);have hb:=(hfr.servo i hi).2.2.1;rw[Zp] at hb;have c1:=(hb.cell (svL_get _ k (by omega))).1;have c2:=(hb.cell (svL_get _ k (by omega))).2
    have k0:(0:Int)≤(k:Int):=by omega
    have k1:(k:Int)<(m:Int):=by omega
    generalize hpk:p.getD k 0=pk at *;have Ho:=Za (hfr.putIs hi (k:=k) (by rw[Zp];omega) pk);have Hf:=Za (hax.farCell (g:=G i) (j:=k*3) (x:=Vi pk) (by omega));have Hi:=Za (hkk.farCell (g:=G i) (j:=k*3) (x:=Vi pk) (by omega));have Hj:=Za (hhh.farCell (g:=G i) (j:=k*3) (x:=Vi pk) (by omega));have Hr:=Za (ils_far (V:=G i) (j:=k*3) (x:=Vi pk) (by omega) hil);rw[Zp,upd_upd,sik_at (sv i) p (by omega),←hpk,sik_step,hpk] at Ho;clear hfr hax hkk hhh hil hb hpk;go_wp2_with fail;go_roundw
    case rel=>exact⟨k+1,by omega,by go_num,Ho.out,Hf.out,Hi.out,Hj.out,Hr.out⟩
    case measure=>simp[intOf];omega
  · obtain rfl:k=m:=by omega
    clear hil
    go_upto_region 17 with fail;have Hc:=Za hax.range;have Hg:=Za hkk.range;have Hj:=Za hhh.range;have Hk:=Za hfr.low;have hKw:K≤wr.heap.size:=Nat.le_of_lt (Nat.lt_of_le_of_lt hfr.base hfr.blk.lt);have hvl:=hfr.vls hi;rw[(hfr.servo i hi).1,Zp] at hvl;have hsm:=fun u (h:Bw wr u)=>hsm0 u (hvl.later h);have Ho:=Za hfr;clear hax hkk hhh hfr hvl;refine Cs [91,92,93,94,95,96,97,98,90,99,100,15] ?_;refine Cl (x:=.tmp 5) 0 91 [] (fun y w _ u hSw=>⟨Zg Hc.out hSw,rfl⟩) underlying26 Zs ?_;refine Cc 1 92 [0] (fun y w h _=>hhr' _) ?_;refine Cl (x:=.tmp 9) 2 93 [] (fun y w _ u hSw=>⟨Zg Hj.out hSw,rfl⟩) underlying38 Xh ?_;refine Cl (x:=.tmp 7) 3 94 [] (fun y w _ u hSw=>⟨Zg Hg.out hSw,rfl⟩) underlying110 infoK5 ?_;refine Cp 4 95 [] ?_;refine Cp 5 96 [] ?_;refine Cc 6 97 [5] (fun y w h _=>hsm _ h) ?_;refine Cc 7 98 [1,2,3,4,6] (fun y w h _=>hto0 _ (low_up Hk.out hKw h)) ?_;refine Cp 8 90 [7] ?_;refine Cp 9 99 [8] ?_;refine Cp 10 100 [8] ?_;refine Ca 11 15 ?_;refine Cn 2 14 [12,13] (fun y u1 hB hf=>?_);obtain⟨XA,e,hA⟩:=hf.1;have Ha:Hid (NB _ _ _ XA [Vi 0,Vi 0,Vi 0]):=Za hA;(try simp only[e]);clear e hA;have Hh:=Za hB;clear hB hf;refine Ra 12 (fun K hK=>?_);rw[if_pos (by rfl)];refine Yi 38 (.tmp 15) (.tmp 99) rfl XA 0 #[Vi ha,Vi td,Vi n] rfl rfl (Ha.out.1.there (Nat.le_of_ble_eq_true rfl)) Xh (Zn _ rfl) rfl ?_;have Hd:=Za (Zr [Vi ha,Vi td,Vi n] 0 u1 Hh.out (NB.le Ha.out));have Hb:Hid (NB 38 wr.heap.size (u1.setCells XA 0 [Vi ha,Vi td,Vi n]) XA [Vi ha,Vi td,Vi n]):=Za ⟨Blk.setCells [Vi ha,Vi td,Vi n] 0 u1 [Vi 0,Vi 0,Vi 0] Ha.out.1,NB.le Ha.out⟩;generalize hU:World.setCells _ XA 0 _=u2 at *;clear hU;refine hK.out _ _ Hd.out (fun _=>?_);clear hK K;clear Hh Ha;refine Tq 13 Hd.out ?_;simp only[Act.put,Ly];refine Dn ?_;go_simp;have hA:=Hb.out;clear Hb;have hB:=Hd.out;clear Hd;generalize u2=v17 at hB hA⊢;refine Ek ?_;have Hs:=Za (Ho.out.later hB);have hQT:=NB.le hA;have HC:=Za hA.1;have HX:Hid (XA≠B):=Za (by have:=Ho.out.blk.lt;omega);clear hA Hc Hg Hj hsm hB Ho;generalize XA=QT at*
    go_upto_region 20 with fail;have Hv:=Za (Hs.out.later (Below.refl _ _).drew);have HT:Hid (World.there v17.drew B (23+i*3) 3):=Za (Hv.out.blk.there (by rw[frL_len];omega));have HD:Hid (World.rangeAt v17.drew QT 0 [Vi ha,Vi td,Vi n]):=Za (HC.out.later (Below.refl _ _).drew).range;have Hw:=Za (Hv.out.put (({ S with hd:=upd S.hd i (ha,td,n) }:FS)) [Vi ha,Vi td,Vi n] (23+i*3) (fr_putHold S C _ hi (ha,td,n)) ⟨rfl,rfl⟩);clear Hs HC Hv;refine wp_region_held_drew (S:=fun u=>(u.rangeAt QT 0 [Vi ha,Vi td,Vi n])) (by kernel_rfl) (HD.out) (fun _=>?_);have Hm:Hid ((v17.drew.rangeAt QT 0 [Vi ha,Vi td,Vi n])):=Za (HD.out);refine Tq 0 Hm.out ?_;simp only[Act.put,Ly];refine Tq 1 Hm.out ?_;simp only[Act.put,Ly];refine Tk 2 rfl (yieldsIf_load_mid (by rfl) 38 (.tmp 15) rfl QT 0 rfl [Vi ha,Vi td,Vi n] _ (fun w hSw=>hSw) underlying38 rfl Xh) Hm.out ?_;simp only[Act.put,Ly];refine Tq 3 Hm.out ?_;simp only[Act.put,Ly];refine Tq 4 Hm.out ?_;simp only[Act.put,Ly];refine Tq 5 Hm.out ?_;simp only[Act.put,Ly];refine Tq 6 Hm.out ?_;simp only[Act.put,Ly];refine Ra 7 (fun K hK=>?_);rw[if_pos (by rfl)];refine Yi 38 (.tmp 110) (.tmp 106) rfl B (23+i*3) #[Vi ha,Vi td,Vi n] rfl rfl (HT.out) Xh (Zn _ rfl) rfl ?_;have Hh:=Za (World.rangeAt_setCells_apart Hm.out B (23+i*3) [Vi ha,Vi td,Vi n] (.inl HX.out));refine hK.out _ _ Hh.out (fun _=>?_);clear hK K;refine Dn ?_;go_simp;refine Ek ?_;go_wp2_with fail;go_ret;subst hSn;exact⟨rfl,Hw.out⟩
def mvH(C:CR)(S:FS)(l:List Rd)(sv:Nat→List Sv)(i:Nat):Int×Int×Int:=hoM C i (S.hd i) (skI l i) (S.bk i).l (S.bk 2).l S.n (sv i)
def mvS(C:CR)(S:FS)(l:List Rd)(sv:Nat→List Sv)(i:Nat):List Sv:=svM C i (S.hd i) (skI l i) (S.bk i).l (S.bk 2).l S.n (sv i)
theorem MvOK.next(h:MvOK K wz C S l sv 1)(x:Int×Int×Int)(y:List Sv):MvOK K wz C ({ S with hd:=upd S.hd 0 x }:FS) l (upd sv 0 y) 1:=
 ⟨h.n1,h.n4,h.m0,h.m1,h.mc,h.line,h.ok,h.h4,h.h5,h.h3,h.h7,h.h6,h.ho,h.gm⟩
theorem moveAxes_ok{G:Nat→Nat}(hf:FR K wz w B S C a cap l sv G)(h0:MvOK K wz C S l sv 0)(h1:MvOK K wz C S l sv 1):
 Calls prog 61 #[.pointer (some (Ad B 0))] w fun e w'=>e=.returned .nilIface∧FR K wz w' B ({ S with hd:=upd (upd S.hd 0 (mvH C S l sv 0)) 1 (mvH C S l sv 1) }:FS) C a cap l (upd (upd sv 0 (mvS C S l sv 0)) 1 (mvS C S l sv 1)) G:=by
 have hm0:=moveAxis_ok hf 0 (by omega) h0;have hm1:=fun(u:World) (h:FR K wz u B ({ S with hd:=upd S.hd 0 (mvH C S l sv 0) }:FS) C a cap l (upd sv 0 (mvS C S l sv 0)) G)=>moveAxis_ok h 1 (by omega) (h1.next _ _);clear hf h0 h1
 go_enter func61,ntmps61
 go_upto_region 2 with fail;refine wp_loop_rounds 3 ?_;rw[rounds_succ]
 go_wp2_with (go_at_call 112;refine hm0.mono ?_;rintro e u0 ⟨rfl,hf⟩;have HF:=Za hf;clear hf);rw[rounds_succ]
 go_wp2_with (go_at_call 112;refine Sb (hm1 _ HF.out) fun u1 hf=>?_;have HF:=Za hf;clear hf);rw[rounds_succ];go_wp2_with fail;go_ret;exact⟨rfl,HF.out⟩
end Go.Proofs.YtnfdfiholcelaaaGreatDoor
