
import Derived.Test.YtnepnnkdgejheaaGreatDoorKp33
set_option maxRecDepth 100000
set_option maxHeartbeats 20000000
namespace Go.Proofs.YtnepnnkdgejheaaGreatDoor
open Go.RowKit Plain Tryz
variable {B X g:Nat}{C:CR}{S T:FS}{a b now:Int}{l:List Sv}{u w w0:V6}
theorem Jis(B:Nat)(C:CR)(K:V8)(E:Nat)(l:List Ft)(S:FS)(now:Int)(x:Nat->Int)(at':Nat->Nat->Int)(s:Stp)(w:V6)(hk:Blk 198 w B (flL C K l.length E S now x at'))(M:Fts w K l)(hl:l.length<=1000)(hN:∀i,i<2->0<=C.a i 2/\C.a i 2<=1000)(h4:∀i,i<2->2<=C.a i 4/\C.a i 4<=4)(hz:∀i,i<2->0<=s.z i/\s.z i<=8589934591)(hx:∀i,i<2->-10000000<=x i/\x i<=10000000):
 Va 162 #[Ve B 0,.agg (A6 s).toArray] w fun e w'=>(∃g c,e=.returned (Vf g 0 (saR C l now x at' s).length c)/\Rds w' (some (Ad g 0)) (saR C l now x at' s))/\Bw w w':=by
 have Hj:=Za (Zb w (.cells (A6 s).toArray 70));have J:=Za (fun u (h:Below (w.alloc (.cells (A6 s).toArray 70)).heap.size (w.alloc (.cells (A6 s).toArray 70)) u)=>(hk.lq (Zb w (.cells (A6 s).toArray 70))).lq h);have HF:=Za (fun u (h:Below (w.alloc (.cells (A6 s).toArray 70)).heap.size (w.alloc (.cells (A6 s).toArray 70)) u)=>(M.lq (Zb w (.cells (A6 s).toArray 70))).lq h);have N:=Za (fun u (h:Below (w.alloc (.cells (A6 s).toArray 70)).heap.size (w.alloc (.cells (A6 s).toArray 70)) u)=>(Blk.new w 70 (A6 s)).lq h);have HN:=Za hN;have H4:=Za h4;have HZ:=Za hz;have HX:=Za hx;have Hn:=Za (IP C l now x at' s (fun i hi=>(h4 i hi).2));have Ho:=Za (IN l now s.v);have P:Hd (saR C l now x at' s=axU C l now x at' s 2++spR l now s.v 3++(if s.g then[(40,3,3,1)] else[])):=Za rfl;clear hk M hN h4 hz hx;have hd:(A6 s).toArray=#[Vi (s.k 0),Vi (s.k 1),Vi (s.p 0),Vi (s.p 1),Vi (s.z 0),Vi (s.z 1),Vi s.v,.bool s.g]:=rfl;rw[hd] at Hj J HF N|-;clear hd;generalize saR C l now x at' s=sa at*
 go_enter func162,ntmps162
 go_upto_region 2 with fail;generalize w.alloc (.cells #[Vi (s.k 0),Vi (s.k 1),Vi (s.p 0),Vi (s.p 1),Vi (s.z 0),Vi (s.z 1),Vi s.v,.bool s.g] 70)=v0 at *;generalize w.heap.size=QS at N|-;have Hc:=Za ((J.o v0 (Below.refl _ _)).sub 0 30);rw[Jme] at Hc
 go_upto_region 3 with(refine Lm 39 (.tmp 16) rfl B 0 (axL C 0++axL C 1) Hc.o underlying39 JN ?_);clear Hc
 go_loopw [5,18] (fun s0 ix wr=>∃i:Nat,i<=2/\ix=Vi i/\ROw v0 wr s0 (axU C l now x at' s i)) (fun _ ix _=>2-(intOf ix).toNat)
 case atStart=>exact⟨0,by omega,rfl,ROw.nil v0⟩
 case round=>
  obtain⟨i,hu,rfl,Z⟩:=hrel
  by_cases hi:i<2
  . have hn:=Jbv C hi
    have i0:(0:Int)<=(i:Int):=by omega
    have i1:(i:Int)<2:=by omega
    have H:=Za (Z.lq (Zb wr (.cells (axL C i).toArray 38)));have Y:Hd (Blk 38 (wr.alloc (.cells (axL C i).toArray 38)) wr.heap.size (axL C i)):=Za (Blk.new wr _ _);have D:=Za (Hn.o i (by omega));have Hp:=Za (HX.o i hi);clear Z
    go_upto_region 5 with(refine Sq 38 _ _ rfl ?_;refine Wx (c':=(axL C i).toArray) (.tmp 7) (.tmp 21) rfl rfl rfl rfl rfl rfl (Zm _ rfl) ?_);clear hn;generalize wr.alloc (.cells (axL C i).toArray 38)=v1 at *;generalize wr.heap.size=QA at Y|-;have xz:=((N.o v1 H.o.2).cell (Jig s hi)).1;refine Cs [22,23,24,25,26,27,28] ?_;refine Cl (x:=.tmp 7) 0 22 [] (fun y w _ u hp=>⟨Zf Y.o.range hp,rfl⟩) underlying38 Zq ?_;refine Cp 1 23 [] ?_;refine Cp 2 24 [] ?_;refine Cp 3 25 [2,1] ?_;refine Cq (V5 xz) 4 26 [3] ?_;refine Cc 5 27 [0,4] (fun y w h _=>Jih C i (s.z i) (HN.o i hi) (HZ.o i hi) _) ?_;refine Cp 6 28 [] ?_;refine Ce (fun y u1 G M=>?_);have F:=Za G;clear G M;go_simp;have G:=F.o;clear F;generalize u1=v2 at G|-;refine Ek ?_;clear xz;replace H:=Za (H.o.lq G);replace Y:=Za (Y.o.lq G);clear G
    go_upto_region 6 with fail
    go_loopw [5,28] (fun I ix wr=>∃k:Nat,k<=3/\ix=Vi k/\ROw v0 wr I (axU C l now x at' s i++chU l now i (C.a i 2) (x i) (s.z i) k)/\Blk 38 wr QA (axL C i)) (fun _ ix _=>3-(intOf ix).toNat)
    case atStart=>exact⟨0,Nat.zero_le _,rfl,by rw[chU,List.append_nil];exact H.o,Y.o⟩
    case round=>
     clear H Y;obtain⟨k,hk,rfl,Z,A⟩:=hrel
     by_cases hlt:k<3
     . have hv:=Jpm (noi (C.a i 2) (s.z i)) hlt;have hw:=Jpn (z:=s.z i) (HN.o i hi).1 k;have hy:=(HN.o i hi).2;have hA:=Hp.o
       have k0:(0:Int)<=(k:Int):=by omega
       have k1:(k:Int)<3:=by omega
       have L:Hd (chU l now i (C.a i 2) (x i) (s.z i) (k+1)=chU l now i (C.a i 2) (x i) (s.z i) k++chR l now i k (1+i) (x i+noi (C.a i 2) (s.z i) k)):=Za rfl;have O:=fun u (h:Bw v0 u)=>GQ B K E l now i k (1+i) (x i+noi (C.a i 2) (s.z i) k) hl u ((J.o u h).cell (j:=32) rfl).1 ((J.o u h).cell (j:=63) rfl).1 (HF.o u h);have hq:=CF l now i k (1+i) (x i+noi (C.a i 2) (s.z i) k);have hs:=CG l now i (C.a i 2) (x i) (s.z i) k;have H:=Za Z;have Y:=Za A;have xi:=((J.o wr Z.2).cell (Jic C K l.length E S now x at' hi)).1;generalize chR l now i k (1+i) (x i+noi (C.a i 2) (s.z i) k)=cr at *;generalize noi (C.a i 2) (s.z i) k=nk at *;generalize x i=xx at *;clear Z A
       go_wp2_with (first
        |(go_at_call 200;refine(O _ H.o.2).mono ?_;rintro e v ⟨⟨p,cap,rfl,U⟩,X⟩;have Q:=Za U;replace H:=Za (H.o.lq X);replace Y:=Za (Y.o.lq X);clear X U O xi)
        |(at_builtin;refine N8 (.tmp 32) (.tmp 46) rfl rfl H.o Q.o (by rw[List.length_append];have:=D.o;omega) (fun W u9 R T=>?_);replace H:=Za R;(try replace Y:=Za (T _ _ _ (by decide) Y.o));clear R T))
       go_roundw
       case rel=>exact⟨k+1,by omega,by go_num,by rw[L.o,<-List.append_assoc];exact H.o,Y.o⟩
       case measure=>simp[intOf];omega
     . obtain rfl:k=3:=by omega
       obtain⟨m,hm⟩:∃m:Nat,C.a i 4=(m:Int):=⟨(C.a i 4).toNat,by have:=(H4.o i hi).1;omega⟩
       have hC:2<=m/\m<=4:=by have:=H4.o i hi;omega
       have ho:(C.a i 4).toNat=m:=by omega
       have Hq:Hd (axR C l now i (x i) (at' i) s=chU l now i (C.a i 2) (x i) (s.z i) 3++suU i (at' i) m++[(32+(i:Int),3,3,s.k i)]):=Za (by rw[<-ho];rfl);have x4:=(A.cell (show(axL C i)[4]?=some (Vi (m:Int)) by rw[<-hm];rfl)).1;have hs:=CG l now i (C.a i 2) (x i) (s.z i) 3
       have m0:(0:Int)<=(m:Int):=by omega
       have m4:(m:Int)<=4:=by omega
       have H:=Za Z;clear Z A hm ho
       go_upto_region 10 with fail;refine Cs [49,50,51,52,53,54,55,56,57,58] ?_;refine Cp 0 49 [] ?_;refine Cp 1 50 [] ?_;refine Cp 2 51 [0] ?_;refine Cp 3 52 [2] ?_;refine Cp 4 53 [3,1] ?_;refine Cp 5 54 [] ?_;refine Cq (V5 x4) 6 55 [5] ?_;refine Cp 7 56 [4,6] ?_;refine Cp 8 57 [7] ?_;refine Cp 9 58 [] ?_;refine Ce (fun y u1 G M=>?_);have F:=Za G;clear G M;go_simp;have G:=F.o;clear F;generalize u1=v3 at G|-;refine Ek ?_;clear x4;replace H:=Za (H.o.lq G);clear G
       go_upto_region 11 with fail
       go_loopw [5,58] (fun I ix wr=>∃k:Nat,k<=m/\ix=Vi k/\ROw v0 wr I (axU C l now x at' s i++chU l now i (C.a i 2) (x i) (s.z i) 3++suU i (at' i) k)) (fun _ ix _=>m-(intOf ix).toNat)
       case atStart=>exact⟨0,Nat.zero_le _,rfl,by rw[suU,List.append_nil];exact H.o⟩
       case round=>
        clear H;obtain⟨k,hk,rfl,Z⟩:=hrel
        by_cases hlt:k<m
        . have xk:=((J.o wr Z.2).cell (Jid C K l.length E S now x at' hi (show k<4 by omega))).1;have L:Hd (suU i (at' i) (k+1)=suU i (at' i) k++[(16+4*(i:Int)+k,3,3,at' i k)]):=Za rfl;have hc:=EE i (at' i) k;have ht:=Mu 16 (i:Int) (k:Int);have ha:=D3 (16+4*(i:Int)+(k:Int)) (at' i k)
          have k0:(0:Int)<=(k:Int):=by omega
          have k1:(k:Int)<(m:Int):=by omega
          have H:=Za Z;have Hk:=Za hc;generalize at' i k=ak at*
          unfold rdL at ha
          dsimp only at ha
          clear Z hc;generalize 16+4*(i:Int)+(k:Int)=lb at*
          go_wp2_with (first
           |(go_at_call 202;refine Sm (ht _) ?_)
           |(go_at_call 201;refine Sb (ha _) fun v X=>?_;replace H:=Za ((H.o.lq X).lq (Zb v (.cells (rdL (lb,3,3,ak)).toArray 155)));have Q:=Za (PM v (lb,3,3,ak));clear X xk)
           |(at_builtin;refine N8 (.tmp 63) (.tmp 69) rfl rfl H.o Q.o (by rw[List.length_append,List.length_append,Hk.o];have:=D.o;simp only[List.length_cons,List.length_nil];omega) (fun W u9 R T=>?_);replace H:=Za R;(try replace Y:=Za (T _ _ _ (by decide) Y.o));clear R T))
          go_roundw
          case rel=>exact⟨k+1,by omega,by go_num,by rw[L.o,<-List.append_assoc];exact H.o⟩
          case measure=>simp[intOf];omega
        . obtain rfl:k=m:=by omega
          have xk:=((N.o wr Z.2).cell (Jie s hi)).1;have ha:=D3 (32+(i:Int)) (s.k i);have hc:=EE i (at' i) k;have Hk:=Za hc;have H:=Za Z;have Hl:Hd (axU C l now x at' s (i+1)=axU C l now x at' s i++axR C l now i (x i) (at' i) s):=Za rfl;generalize s.k i=sk at*
          unfold rdL at ha
          dsimp only at ha
          clear Z hc
          go_wp2_with (first
           |(go_at_call 201;refine Sb (ha _) fun v X=>?_;replace H:=Za ((H.o.lq X).lq (Zb v (.cells (rdL (32+(i:Int),3,3,sk)).toArray 155)));have Q:=Za (PM v (32+(i:Int),3,3,sk));clear X xk)
           |(at_builtin;refine N8 (.tmp 72) (.tmp 80) rfl rfl H.o Q.o (by rw[List.length_append,List.length_append,Hk.o];have:=D.o;simp only[List.length_cons,List.length_nil];omega) (fun W u9 R T=>?_);replace H:=Za R;(try replace Y:=Za (T _ _ _ (by decide) Y.o));clear R T))
          go_roundw
          case rel=>exact⟨i+1,by omega,by go_num,by rw[Hl.o,Hq.o,<-List.append_assoc,<-List.append_assoc];exact H.o⟩
          case measure=>simp[intOf];omega
  . obtain rfl:i=2:=by omega
    have D:=Za (Hn.o 2 (by omega));have H:=Za Z;clear Z
    go_upto_region 18 with fail
    go_loopw [5,83] (fun I ix wr=>∃k:Nat,k<=3/\ix=Vi k/\ROw v0 wr I (axU C l now x at' s 2++spR l now s.v k)) (fun _ ix _=>3-(intOf ix).toNat)
    case atStart=>exact⟨0,Nat.zero_le _,rfl,by rw[spR,List.append_nil];exact H.o⟩
    case round=>
     clear H;obtain⟨k,hk,rfl,Z⟩:=hrel;have hc:=Ho.o k
     by_cases hlt:k<3
     . have L:Hd (spR l now s.v (k+1)=spR l now s.v k++chR l now 2 k 8 s.v):=Za rfl;have O:=fun u (h:Bw v0 u)=>GQ B K E l now 2 k 8 s.v hl u ((J.o u h).cell (j:=32) rfl).1 ((J.o u h).cell (j:=63) rfl).1 (HF.o u h);have hq:=CF l now 2 k 8 s.v;have xv:=((N.o wr Z.2).cell (j:=6) rfl).1;have H:=Za Z;generalize chR l now 2 k 8 s.v=cr at *;generalize s.v=sv at *;clear Z
       go_wp2_with (first
        |(go_at_call 200;refine(O _ H.o.2).mono ?_;rintro e v ⟨⟨p,cap,rfl,U⟩,X⟩;have Q:=Za U;replace H:=Za (H.o.lq X);clear X U O xv)
        |(at_builtin;refine N8 (.tmp 86) (.tmp 91) rfl rfl H.o Q.o (by rw[List.length_append];have:=D.o;omega) (fun W u9 R T=>?_);replace H:=Za R;(try replace Y:=Za (T _ _ _ (by decide) Y.o));clear R T))
       go_roundw
       case rel=>(repeat apply Exists.intro);exact⟨⟨k+1,by omega,by go_num,by rw[L.o,<-List.append_assoc];exact H.o⟩,rfl⟩
       case measure=>simp[intOf];omega
     . obtain rfl:k=3:=by omega
       have xg:=((N.o wr Z.2).cell (j:=7) rfl).1;have H:=Za Z;have ha:=D3 40 1
       unfold rdL at ha
       dsimp only at ha
       have Hr:Hd (0<(axU C l now x at' s 2).length):=Za (by show 0<(axU C l now x at' s 1++axR C l now 1 (x 1) (at' 1) s).length;unfold axR;simp only[List.length_append,List.length_cons];omega);clear Z
       cases hg:s.g
       . rw[hg] at xg;rw[hg,if_neg (by simp),List.append_nil] at P;obtain⟨g,cap,rfl,_⟩:=H.o.1.form (by rw[List.length_append];have:=Hr.o;omega);have Q:=Za (D2 rfl H.o.1);have Hm:=Za (Zc Hj.o H.o.2);rw[<-P.o] at Q;clear H;go_wp2_with fail;go_ret;exact⟨⟨g,cap,by rw[P.o];rfl,Q.o⟩,Hm.o⟩
       . rw[hg] at xg;rw[hg,if_pos rfl] at P;have hc:=Ho.o 3
         go_wp2_with (first
          |(go_at_call 201;refine Sb (ha _) fun v X=>?_;replace H:=Za ((H.o.lq X).lq (Zb v (.cells (rdL (40,3,3,1)).toArray 155)));have Q:=Za (PM v (40,3,3,1));clear X xg)
          |(at_builtin;refine N8 (.tmp 96) (.tmp 98) rfl rfl H.o Q.o (by rw[List.length_append];have:=D.o;simp only[List.length_cons,List.length_nil];omega) (fun W u9 R T=>?_);replace H:=Za R;(try replace Y:=Za (T _ _ _ (by decide) Y.o));clear R T))
         obtain⟨g,cap,rfl,_⟩:=H.o.1.form (by rw[List.length_append];simp);replace Q:=Za (D2 rfl H.o.1);have Hm:=Za (Zc Hj.o H.o.2);rw[<-P.o] at Q;clear H;go_ret;exact⟨⟨g,cap,by rw[P.o];rfl,Q.o⟩,Hm.o⟩
theorem Wf:(prog.info? 70).map (·.size)=some 8:=by kernel_rfl
theorem US(T:FS):(prog.info? 110).map (·.size)=some (stL T).toArray.size:=by rw[Yj];rfl
theorem Mw(T:FS):(prog.info? 110).map (·.size)=some (stL T).length:=by rw[Yj];rfl
theorem EF(T:FS):(stL T).toArray.all (·.oneCell')=true:=Zm _ rfl
section
variable (C : CR) (pf : Option Addr) (nf cf : Nat) (S T : FS) (now : Int) (x : Nat -> Int) (at' : Nat -> Nat -> Int)
theorem Jr0:((flL C pf nf cf S now x at').drop 0).take 32=crL C:=rfl
theorem Jr1:((flL C pf nf cf S now x at').drop 33).take 30=stL S:=rfl
theorem Jit:B8 (flL C pf nf cf S now x at') 33 (stL T)=flL C pf nf cf T now x at':=by kernel_rfl
theorem Jpt:(flL C pf nf cf S now x at')[63]?=some (Vi now):=rfl
theorem Jek(v:Int):(flL C pf nf cf S now x at').set 63 (Vi v)=flL C pf nf cf S v x at':=rfl
end
theorem UT{pf:V8}{nf cf:Nat}{x x':Nat->Int}{a a':Nat->Nat->Int}(hx:∀i,i<2->x i=x' i)(ha:∀i,i<2->∀k,k<4->a i k=a' i k):flL C pf nf cf S now x a=flL C pf nf cf S now x' a':=by
 unfold flL
 rw[hx 0 (by omega),hx 1 (by omega),ha 0 (by omega) 0 (by omega),ha 0 (by omega) 1 (by omega),ha 0 (by omega) 2 (by omega),ha 0 (by omega) 3 (by omega),ha 1 (by omega) 0 (by omega),ha 1 (by omega) 1 (by omega),ha 1 (by omega) 2 (by omega),ha 1 (by omega) 3 (by omega)]
theorem Oth.setCells:∀(y:List Value) (o:Nat) (u:V6),Oth w0 u B->Oth w0 (u.setCells B o y) B
 |[],_,_,h=>h
 |v::r,o,u,h=>Oth.setCells r (o+1) (u.setCell ⟨B,o,none⟩ v) h.set
theorem Oth.below(h:Bw w u):Oth w u B:=(Oth.refl w B).lq h
theorem Oth.trans{v:V6}(h:Oth w0 u B)(k:Oth u v B):Oth w0 v B:=
 ⟨Nat.le_trans h.1 k.1,k.2.1.trans h.2.1,k.2.2.1.trans h.2.2.1,k.2.2.2.1.trans h.2.2.2.1,fun b h1 h2=>(k.2.2.2.2 b (Nat.lt_of_lt_of_le h1 h.1) h2).trans (h.2.2.2.2 b h1 h2)⟩
theorem Oth.blk{b:Nat}{t:TypeId}{cs:List Value}(h:Oth w u B)(y:b≠B)(k:Blk t w b cs):Blk t u b cs:=(h.2.2.2.2 b k.lt y).trans k
theorem Oth.lst{a:V8}{l:V9}(h:Oth w u B)(hn:l≠[]->∀g o,a=some (Ad g o)->g≠B)(k:Lst w a l):Lst u a l:=by
 rcases k with k|⟨g,o,e,hc⟩
 . exact .inl k
 . exact .inr ⟨g,o,e,fun j y=>h.cell (hn (fun z=>by rw[z] at y;simp at y) g o e) (hc j y)⟩
theorem Oth.vls{a:V8}(h:Oth w u B)(hn:∀g o,a=some (Ad g o)->g≠B)(k:VLs w a l):VLs u a l:=by
 rcases k with k|⟨g,o,e,hc⟩
 . exact .inl k
 . exact .inr ⟨g,o,e,fun j y=>⟨h.cell (hn g o e) (hc j y).1,h.cell (hn g o e) (hc j y).2.1,h.cell (hn g o e) (hc j y).2.2⟩⟩
theorem Oth.u32{a:V8}{l:V9}(h:Oth w u B)(hn:∀g o,a=some (Ad g o)->g≠B)(k:BP w a l):BP u a l:=by
 rcases k with k|⟨g,e,hc⟩
 . exact .inl k
 . exact .inr ⟨g,e,fun j y=>h.cell (hn g 0 e) (hc j y)⟩
theorem Oth.gv(h:Oth w u B)(hn:B≠1)(k:GV w):GV u:=h.cell (Ne.symm hn) k
def CrN(C:CR)(B:Nat):Prop:=∀i,i<2->(C.al i≠[]->∀g o,C.p i=some (Ad g o)->g≠B)/\(C.zl i≠[]->∀g o,C.q i=some (Ad g o)->g≠B)
theorem Oth.crl(h:Oth w u B)(hn:CrN C B)(k:CrL w C):CrL u C:=fun i hi=>
 ⟨(k i hi).1,(k i hi).2.1,(k i hi).2.2.1,h.lst (hn i hi).1 (k i hi).2.2.2.1,h.lst (hn i hi).2 (k i hi).2.2.2.2⟩
def SvN(T:FS)(B:Nat):Prop:=∀i,i<2->∀g o,T.sp i=some (Ad g o)->g≠B
theorem Oth.svl{sv:Nat->List Sv}(h:Oth w u B)(hn:SvN S B)(k:SvL w S sv):SvL u S sv:=fun i hi=>⟨(k i hi).1,(k i hi).2.1,h.vls (hn i hi) (k i hi).2.2⟩
def SpN(T:FS)(K:Nat):Prop:=∀i,i<2->∃G,T.sp i=some (Ad G 0)/\K<=G
theorem SpN.svn{K:Nat}(h:SpN T K)(j:B<K):SvN T B:=fun i hi g o e=>by
 obtain⟨G,y,h2⟩:=h i hi;rw[y] at e
 cases e
 omega
theorem Oth.grown(h:Oth w u B):w.grownBy u (some B):=⟨h.2.1,h.2.2.1,h.2.2.2.1,h.1,fun k h1 h2=>h.2.2.2.2 k h1 (fun e=>h2 (by rw[e]))⟩
theorem Oth.of(h:w.grownBy u (some B)):Oth w u B:=⟨h.size,h.os,h.tape,h.output,fun b h1 h2=>h.block b h1 (fun e=>h2 (Option.some.inj e))⟩
theorem FP{a:V8}{l:V9}(k:Lst w a l):l≠[]->∀g o,a=some (Ad g o)->g<w.heap.size:=by
 intro hl g o e
 rcases k with k|⟨y,j,h,hc⟩
 . exact absurd k hl
 . rw[h] at e;cases e;exact World.block_lt_of_cell? w _ (hc 0 (List.length_pos_iff.2 hl))
theorem Jpu{a:V8}{l:List Ft}(k:Fts w a l):l≠[]->∀g o,a=some (Ad g o)->g<w.heap.size:=by
 intro hl g o e
 rcases k with k|⟨y,j,h,hc⟩
 . exact absurd k hl
 . rw[h] at e;cases e;exact World.block_lt_of_cell? w _ (hc 0 (List.length_pos_iff.2 hl) 0 _ rfl)
theorem YW{a:V8}(k:VLs w a l)(hl:1<=l.length):∀g o,a=some (Ad g o)->g<w.heap.size:=by
 intro g o e
 rcases k with k|⟨y,j,h,hc⟩
 . rw[k] at hl;simp at hl
 . rw[h] at e;cases e;exact World.block_lt_of_cell? w _ (hc 0 (by omega)).1
theorem Jr2(h:CrL w C):CrN C w.heap.size:=fun i hi=>⟨fun z g o e=>Nat.ne_of_lt (FP (h i hi).2.2.2.1 z g o e),fun z g o e=>Nat.ne_of_lt (FP (h i hi).2.2.2.2 z g o e)⟩
def zSt:List Value:=stL ⟨fun _=>⟨fun _=>0,fun _=>false,0⟩,fun _=>none,fun _=>0,fun _=>0,fun _=>(0,0,0),0⟩
theorem Blk.setSt(h:Blk 110 u X zSt)(T:FS):Blk 110 (u.setCells X 0 (stL T)) X (stL T):=by
 have k:=Blk.setCells (stL T) 0 u _ h
 rwa[U1 (stL T) zSt rfl] at k
theorem Blk.there0(h:Blk 110 u X zSt)(T:FS):u.there X 0 (stL T).toArray.size:=h.there (Nat.le_of_ble_eq_true rfl)
theorem NS{p:Addr}{x y:Value}(h:w.cell? p=some x)(k:w.cell? p=some y):x=y:=Option.some.inj (h.symm.trans k)
theorem Jmk{zs:V9}(h:Blk 110 w X zSt)(k:BP w (some (Ad g 0)) zs)(h1:1<=zs.length):g≠X:=by
 rintro rfl
 rcases k with k|⟨y,e,hc⟩
 . rw[k] at h1;simp at h1
 . obtain rfl:g=y:=by simpa using e
   have:=NS (hc 0 (by omega)) (h.cell (j:=0) rfl).1
   cases this
theorem Jml(h:Blk 110 w X zSt)(k:VLs w (some (Ad g 0)) l)(h1:1<=l.length):g≠X:=by
 rintro rfl
 rcases k with k|⟨y,m,e,hc⟩
 . rw[k] at h1;simp at h1
 . obtain⟨rfl,rfl⟩:g=y/\0=m:=by simpa using e
   have:=NS (hc 0 (by omega)).2.2 (h.cell (j:=2) rfl).1
   cases this
theorem Jmm(C:CR)(l:List Ft)(now:Int)(x:Nat->Int)(at':Nat->Nat->Int)(s:Stp):1<=(saR C l now x at' s).length:=by
 unfold saR
 simp only[List.length_append]
 have:1<=(axU C l now x at' s 2).length:=by
  rw[axU,axU]
  unfold axR
  simp only[List.length_append,List.length_singleton]
  omega
 omega
theorem Jmn{ws:V9}{r:Rd}(h:fnd a b (gat A2 ws)=some r):-262144<=r.2.2.2/\r.2.2.2<=262143:=by
 obtain⟨x,_,hx⟩:=O7 A2 ws r (PJ h)
 unfold A2 at hx
 split at hx
 . cases hx;exact Jh5 x
 . cases hx
theorem Jpv{T:Int}{ws:V9}{f:Option Ft}(h:0<=T/\T<=1000):-300000<=plR T (fnd a b (gat A2 ws)) f/\plR T (fnd a b (gat A2 ws)) f<=300000:=by
 unfold plR
 split
 . omega
 . rename_i r e
   have:=Jmn e
   split
   . split
     . rename_i f
       have:=Xb (v:=f.2.2.2.2) (show -T<=T by omega)
       omega
     . omega
   . omega
theorem PP(v:Nat->List Sv)(n:Int):(rdA v n).length=(v 0).length+(v 1).length+1:=by
 have h:∀i L m,(rdU i L m).length=m:=fun i L m=>by
  induction m with
  |zero=>rfl
  |succ m ih=>rw[rdU,List.length_append,ih];rfl
 simp only[rdA,rdX,List.length_append,h,List.length_nil,List.length_singleton]
 omega
theorem Jmo{v:Nat->List Sv}{n:Int}(h:∀k,k<(rdA v n).length->Yf (rat (rdA v n) k)=true):∀r∈rdA v n,Yf r=true:=fun r y=>by
 obtain⟨k,hk,rfl⟩:=List.getElem_of_mem y;rw[<-EZ hk];exact h k hk
def SaS(T S:FS):Prop:=T.bk=S.bk/\T.hd=S.hd/\T.n=S.n
theorem NT{l:List Ft}{q:FT}{s:Stp}(h:SaS T q.S):SaS (A7 C l now ⟨T,q.sv,q.x,q.at'⟩ s).S (A7 C l now q s).S/\(A7 C l now ⟨T,q.sv,q.x,q.at'⟩ s).sv=(A7 C l now q s).sv/\(A7 C l now ⟨T,q.sv,q.x,q.at'⟩ s).x=(A7 C l now q s).x/\(A7 C l now ⟨T,q.sv,q.x,q.at'⟩ s).at'=(A7 C l now q s).at':=by
 obtain⟨y,j,m,e⟩:=Jiq (C:=C) (l:=wsF C l now q s) (sv:=q.sv) h;have e1':vS3 C T (wsF C l now ⟨T,q.sv,q.x,q.at'⟩ s) q.sv=vS3 C q.S (wsF C l now q s) q.sv:=y;refine⟨⟨j,m,e⟩,e1',?_,?_⟩
 . show(fun i=>q.x i+plU C l now i (vS3 C T (wsF C l now ⟨T,q.sv,q.x,q.at'⟩ s) q.sv i) (C.a i 4).toNat+s.p i)=_
   rw[e1'];rfl
 . show(fun i k=>if k<(C.a i 4).toNat then plc C l now i k (A0 (vS3 C T (wsF C l now ⟨T,q.sv,q.x,q.at'⟩ s) q.sv i) k) else q.at' i k)=_
   rw[e1'];rfl
end Go.Proofs.YtnepnnkdgejheaaGreatDoor
