
import Derived.Test.YtnepnnkdgejheaaGreatDoorKp45
import Derived.Test.YtnepnnkdgejheaaGreatDoorKp47
set_option maxRecDepth 100000
set_option maxHeartbeats 20000000
namespace Go.Proofs.YtnepnnkdgejheaaGreatDoor
open Go.RowKit Plain Tryz
variable {B K c m n:Nat}{a:Addr}{l:List Rp}{n7 n8:Int}{r:Rp}{s:Stp}{t:TypeId}{u:V6}
theorem Jqt{α:Type}{f:α->List Value}{st:TypeId}{z:Value}{by':Nat}{o:Oper}{a:Act}{K:Act->World->Prop}{Q:Exit->Act->World->Prop}{s:Value}{rs rs':List α}{X:Nat}(y e:Operand)(hc:prog.underlying st=some (.slice t))(hi:(prog.info? t).map (fun i=>(i.zero,i.size,i.bytes))=some (some z,m,by'))(ho:o.op=.call { callee:=.builtin .append,args:=#[y,e],argTypes:=#[st,st] })(hx:a.eval e=Vf X 0 n c)(ha:Row f m t B u s rs)(w:B<=u.heap.size)(hy:u.rangeAt X 0 (rs'.flatMap f))(hn:rs'.length=n)(h0:0<n)(H:∀a,(f a).length=m)(h1:∀a,∀v∈f a,v.oneCell'=true)(Z:rs.length+n<=10000000)(h:∀s' u',Row f m t B u' s' (rs++rs')->u.grownBy u' s.ownBlock->(s'.ownBlock=s.ownBlock\/s'.ownBlock=some u.heap.size)->K (a.put o.dst s') u')(hd:0<m:=by decide)(Y:z.cells.size=m:=by rfl)(G:by'<=1000:=by decide)(hs:a.eval y=s:=by rfl):o.wp prog a u K Q:=by
 obtain⟨R,hk,T,J,M⟩:=info_parts hi
 have hl:∀l:List α,(l.flatMap f).length=l.length*m:=fun l=>by
  induction l with
  |nil=>simp
  |cons x l N=>rw[List.flatMap_cons,List.length_append,H,N,List.length_cons,Nat.succ_mul];omega
 have P:(rs.length+n)*by'<=140737488355328:=Nat.le_trans (Nat.mul_le_mul Z G) (by decide)
 refine wp_append_lies _ y e st ho B t R z m by' hc hk T J M Y hd _ _ _ hs ha ⟨X,0,none⟩ n c (rs'.flatMap f) hx (by rw[hl,hn]) (fun j v D=>by rw[Addr.add_lit];exact hy j v D) (fun v C=>?_) h0 (by unfold maxLen;omega) P w _ rfl ?_
 . obtain⟨x,_,hx⟩:=List.mem_flatMap.1 C;exact h1 x v hx
 . intro F I u8 hw E h3 _;refine h _ _ ?_ E ?_
   . unfold Row
     rw[List.length_append,List.flatMap_append,hn];exact hw
   . rcases h3 with h3|h3
     . exact .inl (h3.symm▸rfl)
     . exact .inr (by rw[h3];rfl)
theorem Row.own_lt{α:Type}{f:α->List Value}{s:Value}{rs:List α}(h:Row f m t K u s rs){b:Nat}(e:s.ownBlock=some b):b<u.heap.size:=by
 rcases h.2 with⟨rfl,_⟩|⟨g,cap,ha,rfl,_,y,_⟩
 . cases e
 . cases e
   exact(Array.getElem?_eq_some_iff.1 y).1
theorem Jqu{t':TypeId}{A:Nat}{cs cs':List Value}(h:Blk t u A cs)(k:Blk t' u B cs')(ha:t≠t'):A≠B:=by
 rintro rfl
 unfold Blk at h k
 rw[h] at k
 cases k
 exact ha rfl
theorem FV{q:Nat}{l:V9}(h:CV K u (Vf q 0 n c) l)(h0:l≠[]):N9 u q l:=by
 obtain⟨y,e,_,ha⟩:=Row.at (f:=iL) (m:=1) (fun _=>rfl) h h0
 cases e
 exact fun j x hx=>by have:=ha j x hx 0 _ rfl;simpa using this
theorem Jke(p:V8)(c N:Nat)(l:V9)(r:List V7)(hl:r.length=N)(hN:N<=1000)(h0:0<N)(j:∀s∈r,s.size<=100000)(hn:r.all nC=true)(y:r.map nV=l)(w:V6)(hs:TxL w p r):
 Va 19 #[.slice p N c] w fun e w'=>∃q h,e=.returned (.tuple #[Vf q 0 N h,.bool true])/\CV w.heap.size w' (Vf q 0 N h) l/\Bw w w':=by
 refine(EP p c N l r hl j hn y w hs (hN:=hN)).mono ?_;rintro e w' ⟨s,rfl,hi,H⟩
 have ha:l.length=N:=by rw[<-y,List.length_map,hl]
 obtain⟨q,h,rfl⟩:=hi.slice;obtain⟨Z,rfl,_,hc⟩:=Row.at (f:=iL) (m:=1) (fun _=>rfl) hi (by intro e;rw[e] at ha;simp at ha;omega);rw[ha] at hi|-;exact⟨Z,h,rfl,hi,H⟩
theorem Je7{d:Dk}(h7:0<=n7/\n7<=1)(y:1<=n8/\n8<=300)(h:AW (UC d.a g0) s=0):BL d s n7 n8=(⟨d.a,d.ft,d.st++List.replicate n8.toNat s,d.rp⟩,Yt 0):=by unfold BL;rw[if_pos ⟨h7,y⟩,if_pos h];rfl
theorem Jkf{d:Dk}(h7:0<=n7/\n7<=1)(y:1<=n8/\n8<=300)(h:AW (UC d.a g0) s≠0):BL d s n7 n8=(d,Yt (AW (UC d.a g0) s)):=by unfold BL;rw[if_pos ⟨h7,y⟩,if_neg h]
theorem Je8{d:Dk}(h:¬((0<=n7/\n7<=1)/\1<=n8/\n8<=300)):BL d s n7 n8=(d,AN):=by unfold BL;rw[if_neg h]
theorem QI(K D:Nat)(g:Nat->Nat)(d:Dk)(m:Nat)(hd:DI d m)(C:m<=10000)(sf ss sr:Value)(X:Nat)(r:List V7)(n0 n1 G R n4 T n6 y j:Int)(h5:r.length=9)(E:∀x∈r,x.size<=100000)(hn:r.all nC=true)(F:r.map nV=[n0,n1,G,R,n4,T,n6,y,j])(I:¬((0<=y/\y<=1)/\1<=j/\j<=300))(w:V6)(L:GW K a w)(J:w.heap[X]?=some (.cells ((BS::r).map Value.string).toArray 9 (0,0)))(h:PD false K D g d sf ss sr w):
 Va 11 #[Ve D 0,Vf X 0 10 10] w (RnP K D g (BL d (AQ n0 n1 G R n4 T n6 y) y j) w):=by
 have HE:=Za (Je8 (d:=d) (s:=(AQ n0 n1 G R n4 T n6 y)) I);have N:=Ud J;have O:=Jke (pX X 9) 9 9 _ r h5 (by decide) (by decide) E hn F w (by have k:=Uc J;rwa[h5] at k);have hq:∀u:V6,(Instr.makeMap 61 none).run prog u=.ok (.map (some u.heap.size)) (u.alloc (.map #[] 0)):=fun u=>rfl;have P:=Za h;have HG:=Za L;have Ha:=Za N;have Hb:=Za hd;have Hc:=Za C;clear J h L hd C h5 E hn F
 go_enter func11,ntmps11
 go_upto_region 6 with(first
  |(refine Ub X 9 (.tmp 18) rfl rfl ?_)
  |(go_at_call 19;refine O.mono ?_;rintro e v1 ⟨q,cc,rfl,H,U⟩;have Y:=Za H;have Z:=Za U;clear H U)
  |(refine Wj rfl underlying61 underlying9 rfl ?_))
 have A:=World.alloc_heap_new v1 (.map Zp 6);have ha:=Zb v1 (.map Zp 6);have hl:=Up BS v1.heap.size _ A;have Q:Hd ((Instr.lookup 61 (.map (some v1.heap.size)) (.string BS) true).run prog (v1.alloc (.map Zp 6))=.ok (.tuple #[Vi 9,.bool true]) (v1.alloc (.map Zp 6))):=Za hl;clear hl A;replace Y:Hd (CV w.heap.size (v1.alloc (.map Zp 6)) (Vf q 0 9 cc) _):=Za (Y.o.lq ha);replace Z:=Za (Zc Z.o ha);clear ha N O hq
 change Code.wp _ _ _ _ (v1.alloc (.map Zp 6))
 generalize hi:v1.alloc (.map Zp 6)=v2;have B:v1.alloc (.map Zp 6)=v2:=hi;rw[B] at Z Q Y;clear hi B;generalize v1.heap.size=M at Q|-;have N:=cell_later Z.o Ha.o;replace P:=Za (P.o.lq Z.o);have hl:=Q.o;clear Q
 go_upto_region 17 with fail;have H:=FV Y.o (by simp);have x7:=H 7 y rfl;have x8:=H 8 j rfl;have hc:=Zy y 0 1;have hk:=Zy j 1 300;clear H Y hl
 by_cases h7:0<=y/\y<=1
 case' pos=>
  rw[Xs h7.1 h7.2] at hc
  have ho:A1 j 1 300=false:=by
   unfold A1
   by_cases q:1<=j<;>simp[q]<;>omega
  rw[ho] at hk;clear ho
 case' neg=>
  have W:A1 y 0 1=false:=by
   unfold A1
   by_cases q:0<=y<;>simp[q]<;>omega
  rw[W] at hc;clear W
 all_goals
  clear I h7
  go_wp2_with (first
   |(go_at_call_of 22 (0:Int);refine Sm (hc _) ?_)
   |(go_at_call_of 22 (300:Int);refine Sm (hk _) ?_))
  go_ret;exact RnP.of HE.o (.of Z.o) (P.o) rfl
theorem Jkg(K D:Nat)(g:Nat->Nat)(d:Dk)(m:Nat)(hd:DI d m)(hm:m<=10000)(sf ss sr:Value)(X:Nat)(r:List V7)(n0 n1 T R n4 J n6 Z n8:Int)(h5:r.length=9)(hz:∀x∈r,x.size<=100000)(hn:r.all nC=true)(he:r.map nV=[n0,n1,T,R,n4,J,n6,Z,n8])(h7:0<=Z/\Z<=1)(h8:1<=n8/\n8<=300)(w:V6)(hg:GW K a w)(hX:w.heap[X]?=some (.cells ((BS::r).map Value.string).toArray 9 (0,0)))(h:PD false K D g d sf ss sr w):
 Va 11 #[Ve D 0,Vf X 0 10 10] w (RnP K D g (BL d (AQ n0 n1 T R n4 J n6 Z) Z n8) w):=by
 have Hh:=Za (Je7 (d:=d) (s:=(AQ n0 n1 T R n4 J n6 Z)) h7 h8);have Hr:=Za (Jkf (d:=d) (s:=(AQ n0 n1 T R n4 J n6 Z)) h7 h8);obtain⟨N,rfl⟩:∃N:Nat,n8=N:=⟨n8.toNat,by omega⟩;rw[Int.toNat_natCast] at Hh;have Hn:Hd (1<=N/\N<=300):=Za (by omega);have hc:=Zy Z 0 1;rw[Xs h7.1 h7.2] at hc;have hh:=Zy (N:Int) 1 300;rw[Xs h8.1 h8.2] at hh;have x0:=Ud hX;have hq:=Jke (pX X 9) 9 9 _ r h5 (by decide) (by decide) hz hn he w (by have k:=Uc hX;rwa[h5] at k);have hC:∀u:V6,(Instr.makeMap 61 none).run prog u=.ok (.map (some u.heap.size)) (u.alloc (.map #[] 0)):=fun u=>rfl;have HP:=Za h;have HG:=Za hg;have HD:=Za x0;have Hs:=Za hd;have HF:=Za hm;clear hX h hg hd hm h5 hz hn he h7 h8
 go_enter func11,ntmps11
 go_upto_region 6 with(first
  |(refine Ub X 9 (.tmp 18) rfl rfl ?_)
  |(go_at_call 19;refine hq.mono ?_;rintro e v1 ⟨q,cc,rfl,C,F⟩;have H:=Za C;have W:=Za F;clear C F)
  |(refine Wj rfl underlying61 underlying9 rfl ?_))
 have hr:=World.alloc_heap_new v1 (.map Zp 6);have hj:=Zb v1 (.map Zp 6);have hl:=Up BS v1.heap.size _ hr;have HL:Hd ((Instr.lookup 61 (.map (some v1.heap.size)) (.string BS) true).run prog (v1.alloc (.map Zp 6))=.ok (.tuple #[Vi 9,.bool true]) (v1.alloc (.map Zp 6))):=Za hl;clear hl hr;replace H:Hd (CV w.heap.size (v1.alloc (.map Zp 6)) (Vf q 0 9 cc) _):=Za (H.o.lq hj);replace W:=Za (Zc W.o hj);clear hj x0 hq hC
 change Code.wp _ _ _ _ (v1.alloc (.map Zp 6))
 generalize ht:v1.alloc (.map Zp 6)=v2;have hu:v1.alloc (.map Zp 6)=v2:=ht;rw[hu] at W HL H;clear ht hu;generalize v1.heap.size=M at HL|-;have x0:=cell_later W.o HD.o;replace HP:=Za (HP.o.lq W.o);have hl:=HL.o;clear HL
 go_upto_region 17 with fail;have C:=FV H.o (by simp);have x7:=C 7 Z rfl;have U:=C 8 _ rfl;clear hl
 go_upto_region 19 with(first
  |(go_at_call_of 22 (0:Int);refine Sm (hc _) ?_)
  |(go_at_call_of 22 (300:Int);refine Sm (hh _) ?_))
 have x0:=C 0 n0 rfl;have x1:=C 1 n1 rfl;have x2:=C 2 T rfl;have x3:=C 3 R rfl;have x4:=C 4 n4 rfl;have x5:=C 5 J rfl;have x6:=C 6 n6 rfl;clear C hc hh;have A:Hd (∀b,ss.ownBlock=some b->b<v2.heap.size):=Za (fun b e=>HP.o.st.own_lt e);refine Cs [111,112,113,114,115,116,117,118,119,120,121,122,123,124,125,126,127,128,129,130,131,132,133,134,135,136,137,138,139,13] ?_;refine Cp 0 111 [] ?_;refine Cp 1 112 [0] ?_;refine Cq (V5 x0) 2 113 [1] ?_;refine Cp 3 114 [] ?_;refine Cp 4 115 [3] ?_;refine Cq (V5 x1) 5 116 [4] ?_;refine Cp 6 117 [2,5] ?_;refine Cp 7 118 [] ?_;refine Cp 8 119 [7] ?_;refine Cq (V5 x2) 9 120 [8] ?_;refine Cp 10 121 [] ?_;refine Cp 11 122 [10] ?_;refine Cq (V5 x3) 12 123 [11] ?_;refine Cp 13 124 [9,12] ?_;refine Cp 14 125 [] ?_;refine Cp 15 126 [14] ?_;refine Cq (V5 x4) 16 127 [15] ?_;refine Cp 17 128 [] ?_;refine Cp 18 129 [17] ?_;refine Cq (V5 x5) 19 130 [18] ?_;refine Cp 20 131 [16,19] ?_;refine Cp 21 132 [] ?_;refine Cp 22 133 [21] ?_;refine Cq (V5 x6) 23 134 [22] ?_;refine Cp 24 135 [] ?_;refine Cp 25 136 [24] ?_;refine Cq (V5 x7) 26 137 [25] ?_;refine Cp 27 138 [26] ?_;refine Cp 28 139 [6,13,20,23,27] ?_;refine Ca (z:=Qbv) (t:=70) 29 13 ?_;refine Cn 1 31 [30] (fun y u1 Y hf=>?_);obtain⟨L,e,hA,ha⟩:=hf.1;(try simp only[e]);have Ho:Hd (Blk 70 u1 L Qbv):=Za hA;have HH:=Za ha;replace A:Hd (ss.ownBlock≠some L):=Za (fun e=>by have:=A.o L e;omega);have Hi:=Za Y;clear hf e hA ha Y x0 x1 x2 x3 x4 x5 x6 x7 U;refine Ra 30 (fun K hK=>?_);rw[if_pos (by rfl)];refine Z2 70 (.tmp 13) (.tmp 139) rfl L 0 (A6 (AQ n0 n1 T R n4 J n6 Z)).toArray rfl rfl (Ho.o.there (o:=0) (n:=8) (by decide)) Wf (Zm _ rfl) rfl ?_;have Hj:=Za (Zo (A6 (AQ n0 n1 T R n4 J n6 Z)) 0 u1 Hi.o HH.o);have P:Hd (Blk 70 (u1.setCells L 0 (A6 (AQ n0 n1 T R n4 J n6 Z))) L (A6 (AQ n0 n1 T R n4 J n6 Z))):=Za (Blk.setCells (A6 (AQ n0 n1 T R n4 J n6 Z)) 0 u1 _ Ho.o);refine hK.out _ _ Hj.o (fun _=>?_)
 clear hK K Ho Hi;refine Dn ?_;go_simp;generalize u1.setCells L 0 _=v4 at *;refine Ek ?_;have Hk:=Za (Zc W.o Hj.o);have I:=Za (HP.o.lq Hj.o);replace H:=Za (H.o.lq Hj.o);have Ht:=Za (Xz I.o.bk 0 32 (LC _ _ _ _ (X4 _)));have Hl:=Za P.o.range;have Hu:=Za (GU (UC d.a g) (AQ n0 n1 T R n4 J n6 Z) (fun i _=>by have:=Hs.o.a i 3;show -100000000000<=d.a i 3/\d.a i 3<=_;omega));clear Hj HP W
 go_upto_region 20 with fail;refine Cs [140,141,142,143,144,145,14] ?_;refine Cp 0 140 [] ?_;refine Cp 1 141 [0] ?_;refine Cp 2 142 [1] ?_;refine Cl (x:=.tmp 142) 3 143 [2] (fun y w hF u ho=>⟨Zf Ht.o ho,hF.1⟩) underlying41 Zr ?_;refine Cl (x:=.tmp 13) 4 144 [] (fun y w _ u ho=>⟨Zf Hl.o ho,rfl⟩) underlying70 Wf ?_;refine Cc 5 145 [3,4] (fun y w h _=>Hu.o _) ?_;refine Cp 6 14 [5] ?_;refine Ce (fun y B Y hf=>?_);have Hi:=Za Y;clear Y hf;go_simp;have Y:=Hi.o;clear Hi;generalize B=v5 at Y|-;refine Ek ?_;replace Hk:=Za (Zc Hk.o Y);replace I:=Za (I.o.lq Y);replace P:=Za (P.o.lq Y);replace H:=Za (H.o.lq Y);clear Y Ht Hl Hu;rw[Joc _ g g0];have HI:=Za (Q5 (UC d.a g0) (AQ n0 n1 T R n4 J n6 Z));generalize hs:(AQ n0 n1 T R n4 J n6 Z)=s at *;clear hs
 have c8:(0:Int)<(N:Int):=by have:=Hn.o;omega
 by_cases hE:AW (UC d.a g0) s=0
 case neg=>
  have HE:=Za (Hr.o hE);generalize AW (UC d.a g0) s=E at*
  have hD:(E==0)=false:=by simpa using hE
  have U:=FV H.o (by simp) 8 _ rfl
  go_upto_region 22 with fail;clear U
  go_loopw [15] (fun i wr=>i=Vi 0/\Bw v5 wr) (fun _ _=>0)
  case atStart=>exact⟨rfl,Below.refl _ _⟩
  case round=>
   obtain⟨rfl,F⟩:=hrel;have U:=FV (H.o.lq F) (by simp) 8 _ rfl;have Hv:=Za (Zc Hk.o F);have Q:=Za (I.o.lq F);have Hp:=Za (Uf E HI.o.ok wr (HG.o.lq Hv.o));clear F
   go_wp2_with (go_at_call 21;refine Hp.o.mono ?_;rintro e v6 ⟨rfl,F⟩);go_ret;exact RnP.of HE.o (.of (Zc Hv.o F)) (Q.o.lq F) rfl
 case pos=>
  have HE:=Za (Hh.o hE);rw[hE];have U:=FV H.o (by simp) 8 _ rfl
  go_upto_region 22 with fail;clear U Hh Hr hE
  go_loopw [15] (fun i wr=>∃k:Nat,k<=N/\i=Vi k/\(∃G s1,Hd (G=d.st++List.replicate k s)/\PD false K D g ⟨d.a,d.ft,G,d.rp⟩ sf s1 sr wr/\s1.ownBlock≠some L)/\Dt K w wr/\Blk 70 wr L (A6 s)/\CV w.heap.size wr (Vf q 0 9 cc) [n0,n1,T,R,n4,J,n6,Z,(N:Int)]) (fun i _=>N-(intOf i).toNat)
  case atStart=>exact⟨0,by omega,rfl,⟨d.st,ss,Za (by rw[List.replicate_zero,List.append_nil]),I.o,A.o⟩,.of Hk.o,P.o,H.o⟩
  case round=>
   clear A Hk I P H;obtain⟨k,hk,rfl,⟨G,s1,HL1,hp,hv⟩,hd,hx,hi⟩:=hrel;have HJ:Hd (G.length<=5000000):=Za (by rw[HL1.o,List.length_append,List.length_replicate];have:=Hs.o.st;have:=HF.o;have:=Hn.o;omega);have U:=FV hi (by simp) 8 _ rfl;have I:=Za hp;have A:=Za hv;have Hm:=Za hd;have P:=Za hx;have H:=Za hi;clear hp hv hd hx hi
   by_cases hlt:k<N
   . have k1:(k:Int)<(N:Int):=by omega
     have hw:IntKind.i64.wrap ((k:Int)+1)=((k+1:Nat):Int):=by rw[IntKind.wrap_i64]<;>(have:=Hn.o;omega)
     go_upto_region 24 with fail;clear U;have c1:=(I.o.bk.cell (j:=33) rfl).1;obtain⟨pp,ccc,rfl⟩:=I.o.st.slice;have Hl:=Za P.o.range;refine Ct [157,158,159,160,161,162,163,164] ?_;refine Cp 0 157 [] ?_;refine Cp 1 158 [] ?_;refine Cp 2 159 [1] ?_;refine Cp 3 160 [2] ?_;refine Cp 4 161 [3] ?_;refine Cy (V5 c1) 5 162 [4] ?_;refine Cr (x:=.tmp 13) 6 163 [] (fun y w h _=>⟨Zf Hl.o h,rfl⟩) underlying70 Wf ?_;refine Cbs (z:=A6 s) (t:=70) (n:=1) 7 164 [6] ?_;refine Cn 5 13 [8,9,10,11,12] (fun y u1 Y hf=>?_);obtain⟨X2,e,hX,ha⟩:=hf.1;(try simp only[e]);have Hw:Hd (Blk 70 u1 X2 (A6 s)):=Za hX;have Q:=Za (I.o.lq Y);have Hx:=Za (Hm.o.lq Y);replace P:=Za (P.o.lq Y);replace H:=Za (H.o.lq Y);clear hf e hX ha Y c1 Hl I Hm;refine Ra 8 (fun K9 hK=>?_);rw[if_pos (by rfl)];refine Jqt (rs':=[s]) (.tmp 162) (.tmp 164) underlying44 FU rfl rfl Q.o.st Q.o.lt (by simpa using Hw.o.range) rfl (by decide) Uo Mz (by have:=HJ.o;show G.length+1<=_;omega) ?_;intro s' B hR hG hO;obtain⟨ps',cs',rfl⟩:=hR.slice;have HK:Hd (G++[s]=d.st++List.replicate (k+1) s):=Za (by rw[HL1.o,List.append_assoc,<-List.replicate_succ'])
     have hy:(G++[s]).length=G.length+1:=by simp
     rw[hy] at hR hO|-
     have HM:Hd ((Value.slice ps' (G.length+1) cs').ownBlock≠some L):=Za (by
      rcases hO with hO|hO
      . rw[hO];exact A.o
      . rw[hO];intro e;cases e;exact absurd P.o.lt (Nat.lt_irrefl _))
     have HR:=Za hR;have Hy:=Za (Hx.o.row Q.o.st hG);have O:=Za (Q.o.bk.kept Q.o.st hG (by decide));have Hz:=Za (Q.o.ft.kept Q.o.st hG);have HC:=Za (Q.o.rp.kept Q.o.st hG);have Hq:=Za (Q.o.st.below Q.o.lt hG);replace P:=Za (P.o.grew' hG (fun e=>A.o e.symm));replace H:=Za (H.o.kept Q.o.st hG);clear hR hG Hw hO hy A;refine hK.out _ _ trivial (fun _=>?_);clear hK K9;(try simp only[Act.put]);refine Tq 9 trivial ?_;simp only[Act.put,Ly];refine Tq 10 trivial ?_;simp only[Act.put,Ly];refine Tq 11 trivial ?_;simp only[Act.put,Ly];refine Ra 12 (fun K9 hK=>?_);obtain⟨e,e1⟩:=O.o.cell (j:=33) rfl;go_simp;refine hK.out _ _ trivial (fun _=>?_);clear hK K9;refine Dn ?_
     have HA:Hd (Dt K w (B.setCell (Ad D 33) (.slice ps' (G.length+1) cs'))/\PD false K D g ⟨d.a,d.ft,G++[s],d.rp⟩ sf (.slice ps' (G.length+1) cs') sr (B.setCell (Ad D 33) (.slice ps' (G.length+1) cs'))/\Blk 70 (B.setCell (Ad D 33) (.slice ps' (G.length+1) cs')) L (A6 s)/\CV w.heap.size (B.setCell (Ad D 33) (.slice ps' (G.length+1) cs')) (Vf q 0 9 cc) [n0,n1,T,R,n4,J,n6,Z,(N:Int)]):=Za (by
      have hk:=Q.o.kd
      exact⟨Hy.o.set (j:=33) (x:=.slice ps' (G.length+1) cs') O.o hk,Q.o.upd (d':=⟨d.a,d.ft,G++[s],d.rp⟩) rfl (O.o.set 33 _) (Wi Hq.o ((Dt.refl K B).set (j:=33) O.o hk |>.below (Nat.le_trans Q.o.lt Hq.o.size))) (Hz.o.set O.o (by decide)) (HR.o.set O.o (by decide)) (HC.o.set O.o (by decide)),P.o.far (Jqu P.o O.o (by decide)) 33 _,H.o.set O.o (by decide)⟩)
     clear O Hz HC Hq HR Hx Hy e e1 Q P H;generalize B.setCell _ _=v7 at *;go_simp;refine Ek ?_;go_wp2_with fail;go_roundw
     case rel=>exact⟨k+1,by omega,by go_num,⟨_,_,HK,HA.o.2.1,HM.o⟩,HA.o.1,HA.o.2.2.1,HA.o.2.2.2⟩
     case measure=>simp[intOf];omega
   . obtain rfl:k=N:=by omega
     have e:=HL1.o;subst e;clear HL1
     have R:¬(k:Int)<(k:Int):=by omega
     have Hp:=Za (Uf 0 ⟨by decide,by decide⟩ wr (HG.o.dt Hm.o))
     go_wp2_with (go_at_call 21;refine Hp.o.mono ?_;rintro e v6 ⟨rfl,F⟩);go_ret;exact RnP.of HE.o (Hm.o.lq F) (I.o.lq F) rfl
theorem Jqv{r:List V7}{n0:Int}(h5:r.length=1)(hn:r.all nC=true)(h:r.map nV=[n0]):nC (gS r 0)=true/\nV (gS r 0)=n0:=by
 match r,h5 with
 |[s],_=>exact⟨by simpa using hn,by simpa using h⟩
theorem Jqw(K D:Nat)(g:Nat->Nat)(d:Dk)(m:Nat)(hd:DI d m)(hm:m<=10000)(sf ss sr:Value)(X:Nat)(r:List V7)(n0:Int)(h5:r.length=1)(hz:∀x∈r,x.size<=100000)(hn:r.all nC=true)(he:r.map nV=[n0])(w:V6)(hg:GW K a w)(hX:w.heap[X]?=some (.cells ((atS::r).map Value.string).toArray 9 (0,0)))(h:PD false K D g d sf ss sr w):
 Va 11 #[Ve D 0,Vf X 0 2 2] w (RnP K D g ((d,atA d (gS r 0))) w):=by
 have ha:=Jqv h5 hn he;have hG:=hd.rn;have I:Hd (atA d (gS r 0)=if 0<=n0/\n0<d.rp.length then(match d.rp[n0.toNat]? with|some r=>BJ (rpV r)|none=>AN) else Yt 1):=Za (by unfold atA;rw[if_pos ha.1,ha.2];rfl);generalize atA d (gS r 0)=A at *;clear ha;have Hj:=Za hd.rp;have Y:=Ud hX;have ho:=Jkd (pX X 1) 1 1 _ r h5 (by decide) (by decide) hz hn he w (by have k:=Uc hX;rwa[h5] at k);have hD:∀u:V6,(Instr.makeMap 61 none).run prog u=.ok (.map (some u.heap.size)) (u.alloc (.map #[] 0)):=fun u=>rfl;have J:=Za h;have HG:=Za hg;have Hl:=Za Y;have Hp:=Za hd;have Hq:=Za hm;clear hX h hg hd hm h5 hz hn he
 go_enter func11,ntmps11
 go_upto_region 6 with(first
  |(refine Ub X 1 (.tmp 18) rfl rfl ?_)
  |(go_at_call 19;refine ho.mono ?_;rintro e v1 ⟨q,cc,rfl,h9,C⟩;have Q:=Za h9;have G:=Za C;clear h9 C)
  |(refine Wj rfl underlying61 underlying9 rfl ?_))
 have hp:=World.alloc_heap_new v1 (.map Zp 6);have hj:=Zb v1 (.map Zp 6);have hl:=Up atS v1.heap.size _ hp;have L:Hd ((Instr.lookup 61 (.map (some v1.heap.size)) (.string atS) true).run prog (v1.alloc (.map Zp 6))=.ok (.tuple #[Vi 1,.bool true]) (v1.alloc (.map Zp 6))):=Za hl;clear hl hp;replace Q:Hd (N9 (v1.alloc (.map Zp 6)) q _):=Za (Q.o.lq hj);replace G:=Za (Zc G.o hj);clear hj Y ho hD
 change Code.wp _ _ _ _ (v1.alloc (.map Zp 6))
 generalize hq:v1.alloc (.map Zp 6)=v2;have hs:v1.alloc (.map Zp 6)=v2:=hq;rw[hs] at G L Q;clear hq hs;generalize v1.heap.size=M at L|-;have Y:=cell_later G.o Hl.o;replace J:=Za (J.o.lq G.o);have hl:=L.o;clear L
 go_upto_region 27 with fail;have Y:=Q.o 0 n0 rfl;obtain⟨pr,cr,rfl⟩:=J.o.rp.slice;have c2:=(J.o.bk.cell (j:=34) rfl).1
 have hw:IntKind.i64.wrap ((d.rp.length:Int)-1)=(d.rp.length:Int)-1:=by rw[Xj]<;>omega
 have ht:=Zy n0 0 ((d.rp.length:Int)-1);clear hl;refine Cs [173,174,175,176,177,178,179,180,181,182,183] ?_;refine Cp 0 173 [] ?_;refine Cp 1 174 [0] ?_;refine Cq (V5 Y) 2 175 [1] ?_;refine Cp 3 176 [] ?_;refine Cp 4 177 [3] ?_;refine Cp 5 178 [4] ?_;refine Cq (V5 c2) 6 179 [5] ?_;refine Cp 7 180 [6] ?_;refine Cp 8 181 [7] ?_;refine Cc 9 182 [2,8] (fun y w h _=>Yc (ht w)) ?_;refine Cp 10 183 [9] ?_;refine Ce (fun y R Z O=>?_);have E:=Za Z;clear Z O Y c2 ht hw;go_simp;have Z:=E.o;clear E;generalize R=v3 at Z|-;refine Ek ?_;have N:=Za (Zc G.o Z);have P:=Za (J.o.lq Z);replace Q:Hd (N9 v3 q _):=Za (Q.o.lq Z);clear Z J G
 by_cases U:0<=n0/\n0<d.rp.length
 case neg=>
  have hc:A1 n0 0 ((d.rp.length:Int)-1)=false:=by unfold A1;by_cases q:0<=n0<;>simp[q]<;>omega
  rw[hc];have HE:Hd (A=Yt 1):=Za (by rw[I.o,if_neg U]);have Hm:=Za (Uf 1 ⟨by decide,by decide⟩ v3 (HG.o.lq N.o));clear U hc I
  go_wp2_with (go_at_call 21;refine Hm.o.mono ?_;rintro e v5 ⟨rfl,C⟩);go_ret;exact RnP.of (congrArg (Prod.mk d) HE.o) (.of (Zc N.o C)) (P.o.lq C) rfl
 case pos=>
  obtain⟨n,rfl⟩:∃n:Nat,n0=n:=⟨n0.toNat,by omega⟩
  have hc:A1 (n:Int) 0 ((d.rp.length:Int)-1)=true:=by unfold A1;simp;omega
  rw[hc]
  have B:n<d.rp.length:=by omega
  obtain⟨H,hi⟩:∃H,d.rp[n]?=some H:=⟨d.rp[n],List.getElem?_eq_getElem B⟩;have HE:Hd (A=BJ (rpV H)):=Za (by rw[I.o,if_pos U,Int.toNat_natCast,hi]);obtain⟨gg,rfl,_,hu⟩:=Row.at U3 P.o.rp (fun e=>by rw[e] at B;cases B);have Hk:=Za (hu n H hi);have Hn:=Za (Hj.o H (List.mem_of_getElem? hi));have Y:=Q.o 0 _ rfl;have c2:=(P.o.bk.cell (j:=34) rfl).1
  have i0:(0:Int)<=(n:Int):=by omega
  have i1:(n:Int)<(d.rp.length:Int):=by omega
  clear U hc I hu hi B Hj
  go_upto_region 29 with fail;refine Cs [185,186,187,188,189,190,191,192,193,16] ?_;refine Cp 0 185 [] ?_;refine Cp 1 186 [0] ?_;refine Cp 2 187 [1] ?_;refine Cq (V5 c2) 3 188 [2] ?_;refine Cp 4 189 [] ?_;refine Cp 5 190 [4] ?_;refine Cq (V5 Y) 6 191 [5] ?_;refine Cp 7 192 [3,6] ?_;refine Cl (x:=.tmp 192) 8 193 [7] (fun y w hF u hE=>⟨Zf Hk.o hE,hF.1⟩) underlying75 Xn ?_;refine Ca (z:=Qba) (t:=75) 9 16 ?_;refine Cn 1 11 [10] (fun y R Z O=>?_);obtain⟨F,e,hA,hv⟩:=O.1;(try simp only[e]);have Hi:Hd (Blk 75 R F Qba):=Za hA;have Ho:=Za hv;have E:=Za Z;clear O e hA hv Z Y c2 Hk;refine Ra 10 (fun K hK=>?_);rw[if_pos (by rfl)];refine Z2 75 (.tmp 16) (.tmp 193) rfl F 0 (rpL H).toArray rfl rfl (Hi.o.there (o:=0) (n:=15) (by decide)) Xn (Zm _ rfl) rfl ?_;have W:=Za (Zo (rpL H) 0 R E.o Ho.o);have T:Hd (Blk 75 (R.setCells F 0 (rpL H)) F (rpL H)):=Za (Blk.setCells (rpL H) 0 R _ Hi.o);refine hK.out _ _ W.o (fun _=>?_);clear hK K Hi E;refine Dn ?_;go_simp;generalize R.setCells F 0 _=v4 at *;refine Ek ?_;replace N:=Za (Zc N.o W.o);replace P:=Za (P.o.lq W.o);clear W i0 i1 Q;have y0:=(T.o.cell (j:=0) rfl).1;have y1:=(T.o.cell (j:=1) rfl).1;have y2:=(T.o.cell (j:=2) rfl).1;have y3:=(T.o.cell (j:=3) rfl).1;have y4:=(T.o.cell (j:=4) rfl).1;have y5:=(T.o.cell (j:=5) rfl).1;have y6:=(T.o.cell (j:=6) rfl).1;have hk:=Zb v4 (.cells ((rpV H).map (Value.int .i64)).toArray 3);have hy:=Jai (some (Ad v4.heap.size 0)) 7 (rpV H) (show 7<=1000 by decide) (by show 0<7;decide) (fun n hn=>by have:=Hn.o n hn;unfold okI;omega) _ (HG.o.lq (Zc N.o hk)) ⟨_,0,rfl,by simp,fun j x hx=>((Blk.new v4 3 ((rpV H).map (Value.int .i64))).cell (by rw[Nat.zero_add,List.getElem?_map,hx];rfl)).1⟩;have HT:=Za hy;have HK:=Za hk;clear hy hk
  go_wp2_with (go_at_call 24;refine HT.o.mono ?_;rintro e v5 ⟨rfl,hC⟩);go_ret;exact RnP.of (congrArg (Prod.mk d) HE.o) (.of (Zc (Zc N.o HK.o) hC)) ((P.o.lq HK.o).lq hC) rfl
theorem Jcp:(prog.info? 46).map (·.size)=some 2:=by kernel_rfl
theorem Jno{d:Dk}(h:AM (UC d.a g0) d.ft d.st≠0):MF d=(d,Yt (AM (UC d.a g0) d.ft d.st)):=by unfold MF;rw[if_neg h]
theorem Jkk{d:Dk}(h:AM (UC d.a g0) d.ft d.st=0):MF d=(⟨d.a,d.ft,d.st,rpU (UC d.a g0) d.ft d.st d.st.length⟩,itB d.st.length):=by unfold MF;rw[if_pos h]
theorem Jkl(cr:List Value)(y j m:Value)(h:cr.length=32):((dkL false cr y j m).drop 32).take 2=[y,j]:=by
 show((cr++[y,j,m]).drop 32).take 2=_
 rw[List.drop_append_of_le_length (by omega),List.drop_of_length_le (by omega)];rfl
theorem Jnp(K D:Nat)(g:Nat->Nat)(d:Dk)(m:Nat)(hd:DI d m)(hm:m<=10000)(sf ss sr:Value)(X:Nat)(r:List V7)(h5:r.length=0)(hz:∀x∈r,x.size<=100000)(hn:r.all nC=true)(he:r.map nV=[])(w:V6)(hg:GW K a w)(A:w.heap[X]?=some (.cells ((RZ::r).map Value.string).toArray 9 (0,0)))(h:PD false K D g d sf ss sr w):
 Va 11 #[Ve D 0,Vf X 0 1 1] w (RnP K D g (MF d) w):=by
 have B:=Ud A;have hc:=EP (pX X 0) 0 0 _ r h5 hz hn he w (by have k:=Uc A;rwa[h5] at k);have hq:∀u:V6,(Instr.makeMap 61 none).run prog u=.ok (.map (some u.heap.size)) (u.alloc (.map #[] 0)):=fun u=>rfl;have Y:=Za h;have HG:=Za hg;have Hm:=Za B;have Hi:=Za hd;have Hn:=Za hm;clear A h hg hd hm h5 hz hn he
 go_enter func11,ntmps11
 go_upto_region 6 with(first
  |(refine Ub X 0 (.tmp 18) rfl rfl ?_)
  |(go_at_call 19;refine hc.mono ?_;rintro e v1 ⟨s9,rfl,hh,Z⟩;obtain⟨p9,c9,rfl⟩:=hh.slice;have J:=Za Z;clear hh Z)
  |(refine Wj rfl underlying61 underlying9 rfl ?_))
 have hi:=World.alloc_heap_new v1 (.map Zp 6);have hj:=Zb v1 (.map Zp 6);have hl:=Up RZ v1.heap.size _ hi;have I:Hd ((Instr.lookup 61 (.map (some v1.heap.size)) (.string RZ) true).run prog (v1.alloc (.map Zp 6))=.ok (.tuple #[Vi 0,.bool true]) (v1.alloc (.map Zp 6))):=Za hl;clear hl hi;replace J:=Za (Zc J.o hj);clear hj B hc hq
 change Code.wp _ _ _ _ (v1.alloc (.map Zp 6))
 generalize ho:v1.alloc (.map Zp 6)=v2;have hp:v1.alloc (.map Zp 6)=v2:=ho;rw[hp] at J I;clear ho hp;generalize v1.heap.size=M at I|-;have B:=cell_later J.o Hm.o;replace Y:=Za (Y.o.lq J.o);have hl:=I.o;clear I
 go_upto_region 32 with fail;obtain⟨W,cf,rfl⟩:=Y.o.ft.slice;obtain⟨ps,cs,rfl⟩:=Y.o.st.slice;have hs:=Hi.o.ft;have ht:=Hi.o.st;have hu:=Hn.o;have Hj:=Za (fun u (k:Bw v2 u)=>MC (UC d.a g) W cf d.ft ps cs d.st (by omega) (by omega) u (Y.o.ln.lq k) (Y.o.ft.fts.lq k) (Y.o.st.sts.lq k));have C:=Za (Xz Y.o.bk 0 32 (LC _ _ _ _ (X4 _)));have F:=Za (Xz Y.o.bk 32 2 (Jkl _ _ _ _ (X4 _)));clear hl hs ht hu;refine Cs [218,219,220,221,222,223,224,225,226,17] ?_;refine Cp 0 218 [] ?_;refine Cp 1 219 [0] ?_;refine Cp 2 220 [1] ?_;refine Cl (x:=.tmp 220) 3 221 [2] (fun y w hF u ha=>⟨Zf C.o ha,hF.1⟩) underlying41 Zr ?_;refine Cp 4 222 [] ?_;refine Cp 5 223 [4] ?_;refine Cp 6 224 [5] ?_;refine Cl (x:=.tmp 224) 7 225 [6] (fun y w hF u ha=>⟨Zf F.o ha,hF.1⟩) underlying46 Jcp ?_;refine Cc 8 226 [3,7] (fun y w h _=>Hj.o w h) ?_;refine Cp 9 17 [8] ?_;refine Ce (fun y T Q L=>?_);have Hk:=Za Q;clear Q L;go_simp;have Q:=Hk.o;clear Hk;generalize T=v3 at Q|-;refine Ek ?_;have O:=Za (Zc J.o Q);have G:=Za (Y.o.lq Q);clear Q Y J C F Hj;rw[Ji2 _ g g0]
 by_cases hE:AM (UC d.a g0) d.ft d.st=0
 case neg=>
  have HE:=Za (Jno hE);have Ho:=Za (Uf (AM (UC d.a g0) d.ft d.st) (Jjv _ _ _).ok v3 (HG.o.lq O.o));generalize AM (UC d.a g0) d.ft d.st=E at*
  have hw:(E==0)=false:=by simpa using hE
  go_wp2_with (go_at_call 21;refine Ho.o.mono ?_;rintro e v5 ⟨rfl,Z⟩);go_ret;exact RnP.of HE.o (.of (Zc O.o Z)) (G.o.lq Z) rfl
 case pos=>
  have HE:=Za (Jkk hE);have ok:=YY (by rw[Ji2 _ g g0];exact hE:AM (UC d.a g) d.ft d.st=0);have Hh:=Za (fun u (k:Bw v3 u)=>ZT (UC d.a g) W cf d.ft ps cs d.st ok.cr ok.st ok.nl ok.ns u (G.o.ln.lq k) (G.o.ft.fts.lq k) (G.o.st.sts.lq k));have hn:=ok.ns;have Hp:Hd ((rpU (UC d.a g0) d.ft d.st d.st.length).length=d.st.length):=Za (CH _ _ _ _);rw[Jod _ g g0] at Hh;generalize rpU (UC d.a g0) d.ft d.st d.st.length=R at *;have C:=Za (Xz G.o.bk 0 32 (LC _ _ _ _ (X4 _)));have F:=Za (Xz G.o.bk 32 2 (Jkl _ _ _ _ (X4 _)));rw[hE];clear ok hE
  go_upto_region 35 with fail;refine Ct [231,232,233,234,235,236,237,238,239,240] ?_;refine Cp 0 231 [] ?_;refine Cp 1 232 [] ?_;refine Cp 2 233 [1] ?_;refine Cp 3 234 [2] ?_;refine Cr (x:=.tmp 234) 4 235 [3] (fun y w h hF=>⟨Zf C.o h,hF.1⟩) underlying41 Zr ?_;refine Cp 5 236 [] ?_;refine Cp 6 237 [5] ?_;refine Cp 7 238 [6] ?_;refine Cr (x:=.tmp 238) 8 239 [7] (fun y w h hF=>⟨Zf F.o h,hF.1⟩) underlying46 Jcp ?_;refine Cd 9 240 [4,8] (fun v u=>RpR K u v R) (fun y w h _=>(Hh.o _ h).mono (by rintro e w' ⟨⟨s,rfl,P⟩,Z⟩;exact⟨_,rfl,(show RpR _ _ _ _ from P).weak (Nat.le_trans G.o.lt h.size),Z⟩)) (fun _ _ _ h2 Z=>h2.lq Z) ?_;refine Cn 3 13 [10,11,12] (fun y T Q L=>?_);have P:RpR K T (y 240) R:=L.1;obtain⟨N,c4,U⟩:=P.slice;rw[Hp.o] at U;rw[U] at P;(try simp only[U]);have HR:=Za P;have H:=Za (G.o.lq Q);have Hl:=Za (Zc O.o Q);clear L Q P U C F Hh G O;refine Tq 10 trivial ?_;simp only[Act.put,Ly];refine Tq 11 trivial ?_;simp only[Act.put,Ly];refine Ra 12 (fun K9 hK=>?_);obtain⟨e,e1⟩:=H.o.bk.cell (j:=34) rfl;go_simp;refine hK.out _ _ trivial (fun _=>?_);clear hK K9;refine Dn ?_
  have HA:Hd (Dt K w (T.setCell (Ad D 34) (.slice N d.st.length c4))/\PD false K D g ⟨d.a,d.ft,d.st,R⟩ (.slice W d.ft.length cf) (.slice ps d.st.length cs) (.slice N d.st.length c4) (T.setCell (Ad D 34) (.slice N d.st.length c4))):=Za (by
   have hk:=H.o.kd
   exact⟨(Dt.of Hl.o).set (j:=34) (x:=.slice N d.st.length c4) H.o.bk hk,H.o.upd (d':=⟨d.a,d.ft,d.st,R⟩) rfl (H.o.bk.set 34 _) ((Dt.refl K T).set (j:=34) H.o.bk hk |>.below H.o.lt) (H.o.ft.set H.o.bk (by decide)) (H.o.st.set H.o.bk (by decide)) (HR.o.set H.o.bk (by decide))⟩)
  have c4':=((H.o.bk.set 34 (.slice N d.st.length c4)).cell (j:=34) rfl).1;have Hq:Hd ((T.setCell (Ad D 34) (.slice N d.st.length c4)).cell? (Ad D 34)=some (.slice N d.st.length c4)):=Za c4';clear HR e e1 H Hl c4';generalize T.setCell _ _=v5 at *;have hv:=CW (d.st.length:Int) ⟨by omega,by omega⟩ v5 (HG.o.dt HA.o.1);have c4':=Hq.o;go_simp;refine Ek ?_
  go_wp2_with (go_at_call 27;refine hv.mono ?_;rintro e v6 ⟨rfl,Z⟩);go_ret;exact RnP.of HE.o (HA.o.1.lq Z) (HA.o.2.lq Z) rfl
theorem M2{V j o:Nat}{x y:Value}(m:V≠B)(h:Kc u V o y):(u.setCell (Ad B j) x).cell? (Ad V o)=some y:=by
 rw[<-h];simp only[World.cell?,heap_setCell_other u ⟨B,j,none⟩ V x m]
def eC(l:List Rp)(h y:Nat):List Value:=[Vi (wMn 0 (l.take h) 2147483647),Vi (wMx 0 (l.take h) (-2147483647)),Vi (wMn 1 (l.take y) 2147483647),Vi (wMx 1 (l.take y) (-2147483647))]
theorem Jcq(ax:Nat)(h:l[0]?=some r)(j:r.x ax<=2000000):wMn ax l 2147483647=wMn ax l (r.x ax):=by
 cases l with
 |nil=>simp at h
 |cons y t=>
  obtain rfl:y=r:=by simpa using h
  unfold wMn
  rw[List.foldl_cons,List.foldl_cons,show min 2147483647 (y.x ax)=y.x ax by omega,show min (y.x ax) (y.x ax)=y.x ax by omega]
theorem Jcr(ax:Nat)(h:l[0]?=some r)(j:-2000000<=r.x ax):wMx ax l (-2147483647)=wMx ax l (r.x ax):=by
 cases l with
 |nil=>simp at h
 |cons y t=>
  obtain rfl:y=r:=by simpa using h
  unfold wMx
  rw[List.foldl_cons,List.foldl_cons,show max (-2147483647) (y.x ax)=y.x ax by omega,show max (y.x ax) (y.x ax)=y.x ax by omega]
theorem Jq2(h:l[0]?=some r)(hi:RpI r):eC l l.length l.length=(edL l r).map (Value.int .i64):=by
 have h0:=hi (r.x 0) (by simp[rpV]);have h1:=hi (r.x 1) (by simp[rpV])
 unfold eC edL
 rw[List.take_length,Jcq 0 h h0.2,Jcr 0 h h0.1,Jcq 1 h h1.2,Jcr 1 h h1.1]
 rfl
theorem Jfb(K D:Nat)(g:Nat->Nat)(d:Dk)(m H:Value)(Z:V8)(cr:Nat)(h0:d.rp=[])(w:V6)(y:GW K a w)(h:PD false K D g d m H (.slice Z d.rp.length cr) w):
 Va 28 #[Ve D 0] w (Rt w (.string (Yt 5))):=by
 have c2:=(h.bk.cell (j:=34) rfl).1;rw[h0] at c2;have Y:=Uf 5 ⟨by decide,by decide⟩ w y;clear h h0 y
 go_enter func28,ntmps28
 go_wp2_with (go_at_call 21;refine Y.mono ?_;rintro e v1 ⟨rfl,X⟩);go_ret;exact⟨rfl,X⟩
theorem Jfc(K D:Nat)(g:Nat->Nat)(d:Dk)(m:Nat)(hd:DI d m)(sf ss:Value)(pr:V8)(cr:Nat)(r0:Rp)(h0:d.rp[0]?=some r0)(w:V6)(hg:GW K a w)(h:PD false K D g d sf ss (.slice pr d.rp.length cr) w):
 Va 28 #[Ve D 0] w (Rt w (.string (BJ (edL d.rp r0)))):=by
 have hc:0<d.rp.length:=(List.getElem?_eq_some_iff.1 h0).1;have hl:=hd.rn;obtain⟨T,rfl,hi,he⟩:=Row.at U3 h.rp (fun e=>by rw[e] at hc;cases hc);have P:Hd (∀j x,d.rp[j]?=some x->w.rangeAt T (j*15) (rpL x)):=Za he;have hf:=(h.bk.cell (j:=34) rfl).1;have N:=Za hf;have G:Hd (D≠w.heap.size/\T≠w.heap.size/\w.heap.size<=w.heap.size):=Za ⟨by have:=h.bk.lt;omega,by omega,by omega⟩;have Hl:=Za (Jq2 h0 (hd.rp r0 (List.mem_of_getElem? h0)));have Hm:=Za (Jjl hd.rp (List.mem_of_getElem? h0));have HG:=Za hg
 have n1:¬(d.rp.length:Int)=0:=by omega
 have n2:((d.rp.length:Int)==0)=false:=by simp;intro q;rw[q] at hc;cases hc
 have m2:=fun C t p q w=>DT C t p q w;have m3:=fun C t p q w=>DU C t p q w;clear hg h h0 hc hd he hi
 go_enter func28,ntmps28
 go_upto_region 5 with fail;clear hf n1 n2;have E:Hd (Blk 3 (w.alloc (.cells Qbw 3)) w.heap.size (eC d.rp 0 0)):=Za (Blk.new w _ _);have Hk:=Za (Zb w (.cells Qbw 3));generalize w.alloc (.cells Qbw 3)=v0 at *;replace G:Hd (∀B,B=w.heap.size->D≠B/\T≠B/\w.heap.size<=B):=Za (fun B e=>by rw[e];exact G.o);generalize hh:w.heap.size=B at E|-;replace G:=Za (G.o B hh.symm);clear hh
 go_loopw [4] (fun i wr=>∃k:Nat,k<=d.rp.length/\i=Vi k/\Blk 3 wr B (eC d.rp k k)/\Bw w wr) (fun i _=>d.rp.length-(intOf i).toNat)
 case atStart=>exact⟨0,by omega,rfl,E.o,Hk.o⟩
 case round=>
  clear E Hk;obtain⟨k,hk,rfl,hs,H⟩:=hrel
  by_cases hlt:k<d.rp.length
  . obtain⟨r,ha⟩:∃r,d.rp[k]?=some r:=⟨d.rp[k],List.getElem?_eq_getElem hlt⟩;have y:=Za hs;have Z:=Za H;have c2:=cell_later H N.o
    have k0:(0:Int)<=(k:Int):=by omega
    have k1:(k:Int)<(d.rp.length:Int):=by omega
    have hw:IntKind.i64.wrap ((k:Int)+1)=((k+1:Nat):Int):=by rw[IntKind.wrap_i64]<;>omega
    have Hn:=Za ha;clear hs H ha
    go_upto_region 8 with fail;clear c2
    go_loopw [5] (fun i Y=>((i=Vi 0/\Blk 3 Y B (eC d.rp k k))\/(i=Vi 1/\Blk 3 Y B (eC d.rp (k+1) k))\/(i=Vi 2/\Blk 3 Y B (eC d.rp (k+1) (k+1))))/\Bw w Y) (fun i _=>2-(intOf i).toNat)
    case atStart=>exact⟨.inl ⟨rfl,y.o⟩,Z.o⟩
    case round=>
    clear y Z;rename World=>Y;obtain⟨hj,H⟩:=hrel;have ha:=Hn.o
    rcases hj with⟨rfl,hs⟩|⟨rfl,hs⟩|⟨rfl,hs⟩
    . have y:=Za hs;have Z:=Za H;have J:=Za (LA 0 2147483647 ha);have M:=Za (LB 0 (-2147483647) ha);have F:=(y.o.cell (j:=0) rfl).1;have I:=(y.o.cell (j:=1) rfl).1;have L:=(y.o.cell (j:=0) rfl).2;have O:=(y.o.cell (j:=1) rfl).2;have c2:=cell_later H N.o;have R:=cell_later H (P.o k r ha 0 _ rfl);rw[Nat.add_zero] at R;have X:Hd (D≠B/\T≠B/\w.heap.size<=B):=G;have Q:=(y.o.set 0 (Vi (mnA (wMn 0 (d.rp.take k) 2147483647) (r.x 0)))).cell (j:=1) rfl;obtain⟨Q,U⟩:=Q;have c3:=M2 X.o.1 (j:=0) (x:=Vi (mnA (wMn 0 (d.rp.take k) 2147483647) (r.x 0))) c2;have A:=M2 X.o.2.1 (j:=0) (x:=Vi (mnA (wMn 0 (d.rp.take k) 2147483647) (r.x 0))) R;clear hs H ha
      go_upto_region 10 with fail
      go_region
      have W:Hd (Blk 3 ((Y.setCell (Ad B 0) (Vi (mnA (wMn 0 (d.rp.take k) 2147483647) (r.x 0)))).setCell (Ad B 1) (Vi (mxA (wMx 0 (d.rp.take k) (-2147483647)) (r.x 0)))).drew B (eC d.rp (k+1) k)):=Za (by unfold eC;rw[J.o,M.o];exact(y.o.set 0 _).set 1 _);have Hj:Hd (Bw w ((Y.setCell (Ad B 0) (Vi (mnA (wMn 0 (d.rp.take k) 2147483647) (r.x 0)))).setCell (Ad B 1) (Vi (mxA (wMx 0 (d.rp.take k) (-2147483647)) (r.x 0)))).drew):=Za (Below.drew (Zo [Vi (mnA (wMn 0 (d.rp.take k) 2147483647) (r.x 0)),Vi (mxA (wMx 0 (d.rp.take k) (-2147483647)) (r.x 0))] 0 Y Z.o X.o.2.2));clear F I L O c2 R Q U c3 A y Z J M;generalize World.drew _=v7 at *;(try go_simp);(try go_wp2_with fail);go_roundw
      case rel=>exact⟨.inr (.inl ⟨rfl,W.o⟩),Hj.o⟩
      case measure=>simp[intOf]
    . have y:=Za hs;have Z:=Za H;have J:=Za (LA 1 2147483647 ha);have M:=Za (LB 1 (-2147483647) ha);have F:=(y.o.cell (j:=2) rfl).1;have I:=(y.o.cell (j:=3) rfl).1;have L:=(y.o.cell (j:=2) rfl).2;have O:=(y.o.cell (j:=3) rfl).2;have c2:=cell_later H N.o;have R:=cell_later H (P.o k r ha 1 _ rfl);clear P;have X:Hd (D≠B/\T≠B/\w.heap.size<=B):=G;have Q:=(y.o.set 2 (Vi (mnA (wMn 1 (d.rp.take k) 2147483647) (r.x 1)))).cell (j:=3) rfl;obtain⟨Q,U⟩:=Q;have c3:=M2 X.o.1 (j:=2) (x:=Vi (mnA (wMn 1 (d.rp.take k) 2147483647) (r.x 1))) c2;have A:=M2 X.o.2.1 (j:=2) (x:=Vi (mnA (wMn 1 (d.rp.take k) 2147483647) (r.x 1))) R;clear hs H ha
      go_upto_region 10 with fail
      go_region
      have W:Hd (Blk 3 ((Y.setCell (Ad B 2) (Vi (mnA (wMn 1 (d.rp.take k) 2147483647) (r.x 1)))).setCell (Ad B 3) (Vi (mxA (wMx 1 (d.rp.take k) (-2147483647)) (r.x 1)))).drew B (eC d.rp (k+1) (k+1))):=Za (by unfold eC;rw[J.o,M.o];exact(y.o.set 2 _).set 3 _);have Hj:Hd (Bw w ((Y.setCell (Ad B 2) (Vi (mnA (wMn 1 (d.rp.take k) 2147483647) (r.x 1)))).setCell (Ad B 3) (Vi (mxA (wMx 1 (d.rp.take k) (-2147483647)) (r.x 1)))).drew):=Za (Below.drew (Zo [Vi (mnA (wMn 1 (d.rp.take k) 2147483647) (r.x 1)),Vi (mxA (wMx 1 (d.rp.take k) (-2147483647)) (r.x 1))] 2 Y Z.o X.o.2.2));clear F I L O c2 R Q U c3 A y Z J M;generalize World.drew _=v7 at *;(try go_simp);(try go_wp2_with fail);go_roundw
      case rel=>exact⟨.inr (.inr ⟨rfl,W.o⟩),Hj.o⟩
      case measure=>simp[intOf]
    . have y:=Za hs;have Z:=Za H;clear hs H ha;go_wp2_with fail;exact⟨⟨k+1,by omega,by go_num,y.o,Z.o⟩,by simp[intOf];omega⟩
  . obtain rfl:k=d.rp.length:=by omega
    have c2:=cell_later H N.o;rw[Hl.o] at hs;have HT:=Za (Jai (some (Ad B 0)) 4 (edL d.rp r0) (by show 4<=1000;omega) (by show 0<4;omega) Hm.o wr (HG.o.lq H) ⟨B,0,rfl,hs.lt,fun j x hx=>by rw[Nat.zero_add];exact(hs.cell (by rw[List.getElem?_map,hx];rfl)).1⟩);have Z:=Za H
    have n3:¬(d.rp.length:Int)<(d.rp.length:Int):=by omega
    clear hs H hk hlt
    go_wp2_with (go_at_call 24;refine HT.o.mono ?_;rintro e v1 ⟨rfl,hm⟩);go_ret;exact⟨rfl,Zc Z.o hm⟩
theorem ZU(K D:Nat)(g:Nat->Nat)(d:Dk)(m:Nat)(hd:DI d m)(y j Q:Value)(w:V6)(Y:GW K a w)(h:PD false K D g d y j Q w):
 Va 28 #[Ve D 0] w (Rt w (.string (Q6 d))):=by
 obtain⟨X,cr,rfl⟩:=h.rp.slice
 cases hr:d.rp with
 |nil=>
  refine(Jfb K D g d y j X cr hr w Y h).mono ?_;rintro e w' ⟨H,Z⟩;exact⟨by rw[H];unfold Q6;rw[hr],Z⟩
 |cons r l=>
  refine(Jfc K D g d m hd y j X cr r (by rw[hr];rfl) w Y h).mono ?_;rintro e w' ⟨H,Z⟩;exact⟨by rw[H];unfold Q6;rw[hr],Z⟩
theorem Jfd(K D:Nat)(g:Nat->Nat)(d:Dk)(m:Nat)(hd:DI d m)(G:m<=10000)(F I L:Value)(X:Nat)(r:List V7)(h5:r.length=0)(R:∀x∈r,x.size<=100000)(hn:r.all nC=true)(T:r.map nV=[])(w:V6)(J:GW K a w)(Y:w.heap[X]?=some (.cells ((C1::r).map Value.string).toArray 9 (0,0)))(h:PD false K D g d F I L w):
 Va 11 #[Ve D 0,Vf X 0 1 1] w (RnP K D g (⟨d.a,[],[],[]⟩,okS) w):=by
 have Q:=Ud Y;have N:=EP (pX X 0) 0 0 _ r h5 R hn T w (by have k:=Uc Y;rwa[h5] at k);have ho:∀u:V6,(Instr.makeMap 61 none).run prog u=.ok (.map (some u.heap.size)) (u.alloc (.map #[] 0)):=fun u=>rfl;have y:=Za h;have A:=Za J;have O:=Za Q;have B:=Za hd;have W:=Za G;clear Y h J hd G h5 R hn T
 go_enter func11,ntmps11
 go_upto_region 6 with(first
  |(refine Ub X 0 (.tmp 18) rfl rfl ?_)
  |(go_at_call 19;refine N.mono ?_;rintro e v1 ⟨s9,rfl,P,C⟩;obtain⟨p9,c9,rfl⟩:=P.slice;have H:=Za C;clear P C)
  |(refine Wj rfl underlying61 underlying9 rfl ?_))
 have hi:=World.alloc_heap_new v1 (.map Zp 6);have ha:=Zb v1 (.map Zp 6);have hl:=Up C1 v1.heap.size _ hi;have Z:Hd ((Instr.lookup 61 (.map (some v1.heap.size)) (.string C1) true).run prog (v1.alloc (.map Zp 6))=.ok (.tuple #[Vi 0,.bool true]) (v1.alloc (.map Zp 6))):=Za hl;clear hl hi;replace H:=Za (Zc H.o ha);clear ha Q N ho
 change Code.wp _ _ _ _ (v1.alloc (.map Zp 6))
 generalize E:v1.alloc (.map Zp 6)=v2;have hk:v1.alloc (.map Zp 6)=v2:=E;rw[hk] at H Z;clear E hk;generalize v1.heap.size=M at Z|-;have Q:=cell_later H.o O.o;replace y:=Za (y.o.lq H.o);have hl:=Z.o;clear Z
 go_upto_region 38 with fail;clear hl;obtain⟨c0,f0⟩:=y.o.bk.cell (j:=32) rfl;obtain⟨c1,f1⟩:=y.o.bk.cell (j:=33) rfl;obtain⟨c2,f2⟩:=y.o.bk.cell (j:=34) rfl;go_wp2_with fail;go_ret;have h:=y.o;have hc:=h.bk.set 32 (.slice none 0 0);have ha:=hc.set 33 (.slice none 0 0);have U:=ha.set 34 (.slice none 0 0);have d3:=(((Dt.of (K:=K) H.o).set (j:=32) (x:=.slice none 0 0) h.bk h.kd).set (j:=33) (x:=.slice none 0 0) hc h.kd).set (j:=34) (x:=.slice none 0 0) ha h.kd;have d4:=(((Dt.refl K v2).set (j:=32) (x:=.slice none 0 0) h.bk h.kd).set (j:=33) (x:=.slice none 0 0) hc h.kd).set (j:=34) (x:=.slice none 0 0) ha h.kd;exact⟨d3,⟨_,_,_,h.upd (d':=⟨d.a,[],[],[]⟩) rfl U (d4.below h.lt) (Row.nil _ _ _ _ _) (Row.nil _ _ _ _ _) (Row.nil _ _ _ _ _)⟩,rfl⟩
theorem Jfe(K D:Nat)(g:Nat->Nat)(d:Dk)(m:Nat)(hd:DI d m)(G:m<=10000)(R T J:Value)(X:Nat)(r:List V7)(h5:r.length=0)(N:∀x∈r,x.size<=100000)(hn:r.all nC=true)(P:r.map nV=[])(w:V6)(C:GW K a w)(Y:w.heap[X]?=some (.cells ((C0::r).map Value.string).toArray 9 (0,0)))(h:PD false K D g d R T J w):
 Va 11 #[Ve D 0,Vf X 0 1 1] w (RnP K D g (d,Q6 d) w):=by
 have Q:=Ud Y;have ha:=EP (pX X 0) 0 0 _ r h5 N hn P w (by have k:=Uc Y;rwa[h5] at k);have hk:∀u:V6,(Instr.makeMap 61 none).run prog u=.ok (.map (some u.heap.size)) (u.alloc (.map #[] 0)):=fun u=>rfl;have H:=Za h;have L:=Za C;have O:=Za Q;have U:=Za hd;have B:=Za G;clear Y h C hd G h5 N hn P
 go_enter func11,ntmps11
 go_upto_region 6 with(first
  |(refine Ub X 0 (.tmp 18) rfl rfl ?_)
  |(go_at_call 19;refine ha.mono ?_;rintro e v1 ⟨W,rfl,hc,j⟩;obtain⟨p9,c9,rfl⟩:=hc.slice;have y:=Za j;clear hc j)
  |(refine Wj rfl underlying61 underlying9 rfl ?_))
 have E:=World.alloc_heap_new v1 (.map Zp 6);have F:=Zb v1 (.map Zp 6);have hl:=Up C0 v1.heap.size _ E;have Z:Hd ((Instr.lookup 61 (.map (some v1.heap.size)) (.string C0) true).run prog (v1.alloc (.map Zp 6))=.ok (.tuple #[Vi 0,.bool true]) (v1.alloc (.map Zp 6))):=Za hl;clear hl E;replace y:=Za (Zc y.o F);clear F Q ha hk
 change Code.wp _ _ _ _ (v1.alloc (.map Zp 6))
 generalize hi:v1.alloc (.map Zp 6)=v2;have I:v1.alloc (.map Zp 6)=v2:=hi;rw[I] at y Z;clear hi I;generalize v1.heap.size=M at Z|-;have Q:=cell_later y.o O.o;replace H:=Za (H.o.lq y.o);have hl:=Z.o;clear Z
 go_upto_region 40 with fail;clear hl;have A:=Za (ZU K D g d m U.o R T J v2 (L.o.lq y.o) H.o)
 go_wp2_with (go_at_call 28;refine A.o.mono ?_;rintro e v3 ⟨rfl,j⟩);go_ret;exact⟨.of (Zc y.o j),⟨_,_,_,H.o.lq j⟩,rfl⟩
theorem Jnq(K D:Nat)(g:Nat->Nat)(d:Dk)(m H Z:Value)(X:Nat)(r:List V7)(y:∀x∈r,x.size<=100000)(w:V6)(Y:GW K a w)(j:w.heap[X]?=some (.cells ((setS::r).map Value.string).toArray 9 (0,0)))(h:PD false K D g d m H Z w):
 Va 11 #[Ve D 0,Vf X 0 (r.length+1) (r.length+1)] w (RnP K D g (if r.length=3 then setA d (gS r 0) (gS r 1) (gS r 2) else(d,AN)) w):=by
 have ha:Va 18 #[Ve D 0,.slice (pX X r.length) r.length r.length] w (RnP K D g (if r.length=3 then setA d (gS r 0) (gS r 1) (gS r 2) else(d,AN)) w):=by
  by_cases h3:r.length=3
  . rw[if_pos h3];have k:=Uc j;have e:=ws3 h3;rw[h3] at k|-;rw[e] at y k;exact Jka K D g d m H Z _ 3 _ _ _ (y _ (by simp)) (y _ (by simp)) w Y k h
  . rw[if_neg h3];refine Sm (Jj8 D _ r.length _ h3 w) ?_;exact⟨Dt.refl _ _,⟨_,_,_,h⟩,rfl⟩
 have R:=Ud j;have Q:=Za ha
 have T:(0:Int)<((r.length+1:Nat):Int):=by omega
 generalize (if r.length=3 then setA d (gS r 0) (gS r 1) (gS r 2) else(d,AN))=A at *;clear j h Y y ha
 go_enter func11,ntmps11
 go_wp2_with (first
  |(refine Ub X r.length (.tmp 18) rfl rfl ?_)
  |(go_at_call 18;refine Q.o.mono ?_;rintro e v1 ⟨hd,G,rfl⟩))
 go_ret;exact⟨hd,G,rfl⟩
def Jst(s:V7)(r:List V7):Prop:=CT s=none\/r.all nC=false\/∃k,CT s=some k/\r.length≠VM k
theorem Jkm(p:V8)(c:Nat)(r:List V7)(hN:r.length<=100000)(h:∀s∈r,s.size<=100000)(w:V6)(hs:TxL w p r):
 Va 19 #[.slice p r.length c] w fun e w'=>∃p9 L c9,e=.returned (.tuple #[.slice p9 L c9,.bool (r.all nC)])/\(r.all nC=true->L=r.length)/\Bw w w':=by
 refine(EO p c r hN h w hs).mono ?_;rintro e w' ⟨h1,h2⟩
 by_cases hn:r.all nC=true
 . rw[if_pos hn] at h1;obtain⟨s,rfl,hi⟩:=h1;obtain⟨q,y,rfl⟩:=hi.slice;exact⟨q,r.length,y,by rw[List.length_map,hn],fun _=>rfl,h2⟩
 . rw[if_neg hn] at h1;exact⟨none,0,0,by rw[h1,show r.all nC=false by simpa using hn],fun e=>absurd e hn,h2⟩
theorem Wt(K D:Nat)(g:Nat->Nat)(d:Dk)(U A B:Value)(X:Nat)(s:V7)(r:List V7)(T:r.length<=100000)(J:∀x∈r,x.size<=100000)(Z:Jst s r)(w:V6)(G:w.heap[X]?=some (.cells ((s::r).map Value.string).toArray 9 (0,0)))(h:PD false K D g d U A B w)(hs:(s.toList==[115,101,116])=false:=by kernel_rfl):
 Va 11 #[Ve D 0,Vf X 0 (r.length+1) (r.length+1)] w (RnP K D g (d,AN) w):=by
 have Y:=Ud G;have ha:=Jkm (pX X r.length) r.length r T J w (Uc G);have W:∀u:V6,(Instr.makeMap 61 none).run prog u=.ok (.map (some u.heap.size)) (u.alloc (.map #[] 0)):=fun u=>rfl
 have i1:(0:Int)<((r.length+1:Nat):Int):=by omega
 obtain⟨y,m,ok,hc,hd,N⟩:∃(y:Bool) (m:Nat) (ok:Bool),(∀M u,u.heap[M]?=some (.map Zp 6)->(Instr.lookup 61 (.map (some M)) (.string s) true).run prog u=.ok (.tuple #[Vi (m:Nat),.bool y]) u)/\r.all nC=ok/\(y=false\/(y=true/\ok=false)\/(y=true/\ok=true/\r.length≠m)):=by
  refine⟨(CT s).isSome,((CT s).map fun j=>(VM j:Nat)).getD 0,r.all nC,fun M u hu=>Up s M u hu,rfl,?_⟩
  rcases Z with e|e|⟨k,e,hk⟩
  . exact .inl (by rw[e];rfl)
  . cases he:(CT s).isSome
    . exact .inl rfl
    . exact .inr (.inl ⟨rfl,e⟩)
  . rw[e]
    cases hq:r.all nC
    . exact .inr (.inl ⟨rfl,rfl⟩)
    . exact .inr (.inr ⟨rfl,rfl,hk⟩)
 rw[hd] at ha;have R:=Za h;have Hf:=Za Y;have P:=Za hc;have C:=Za N;clear G h T J Z hd hc N
 go_enter func11,ntmps11
 go_upto_region 6 with(first
  |(refine Ub X r.length (.tmp 18) rfl rfl ?_)
  |(go_at_call 19;refine ha.mono ?_;rintro e v1 ⟨p9,L,c9,rfl,E,Z⟩;have F:=Za E;have H:=Za Z;clear E Z)
  |(refine Wj rfl underlying61 underlying9 rfl ?_))
 have I:=World.alloc_heap_new v1 (.map Zp 6);have hl:=P.o v1.heap.size _ I;have Q:Hd ((Instr.lookup 61 (.map (some v1.heap.size)) (.string s) true).run prog (v1.alloc (.map Zp 6))=.ok (.tuple #[Vi (m:Nat),.bool y]) (v1.alloc (.map Zp 6))):=Za hl;replace H:=Za (Zc H.o (Zb v1 (.map Zp 6)));clear hl I Y ha W
 change Code.wp _ _ _ _ (v1.alloc (.map Zp 6))
 generalize O:v1.alloc (.map Zp 6)=v2;have hi:v1.alloc (.map Zp 6)=v2:=O;rw[hi] at H Q;clear O hi;generalize v1.heap.size=M at Q|-;have Y:=cell_later H.o Hf.o;replace R:=Za (R.o.lq H.o);have hl:=Q.o;clear Q P
 go_upto_region 7 with fail;clear hl Y hs i1
 rcases C.o with rfl|⟨rfl,rfl⟩|⟨rfl,rfl,hm⟩
 case' inr.inr=>
  obtain rfl:=F.o rfl
  have n1:¬((r.length:Nat):Int)=((m:Nat):Int):=by omega
  have n2:(((r.length:Nat):Int)==((m:Nat):Int))=false:=beq_eq_false_iff_ne.2 n1;clear hm
 all_goals
  clear C F;go_wp2_with fail;go_ret;exact⟨.of H.o,⟨_,_,_,R.o⟩,rfl⟩
end Go.Proofs.YtnepnnkdgejheaaGreatDoor
